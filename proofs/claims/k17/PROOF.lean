import PyProof.Rows.All
import Wide.All
import OpenK.AllK
import Wide.FinOn
import HandS.ForMost
import HandS.IsInst
import HandS.Walk
import KE.KExcPX
import KE.KExcInit
import KE.KExcIs
import HandS.ExcInit
import PyProof.ReprLen
import HandS.WideBits
import HandS.DeepEq
import KE.KExcLine
import PySem.Challenge.RW_relinktree_k17_errors_made
set_option Elab.async false
set_option linter.all false
set_option maxRecDepth 100000
set_option maxHeartbeats 4000000
/-! Defs whose promise needs to know that no repr is under way: the layer's def, call and end once more with that premise. -/
namespace Gy
open PySem PySem.Spec PyProof.Rows L2

/-- repr of data at an address -/
theorem repr_dat {X : Cx} (hg : X.A.guards = some []) (hu : X.A.units + 70 < cLine) :
    CallR X (.builtin "repr") (fun xs H Q => ∃ a d, xs = [.ref a] ∧ Dp X.K H (.ref a) d ∧ d.showable = true ∧ d.hasDict = false ∧ d.depth ≤ 60 ∧
      d.shown.length ≤ sizeLine ∧ Q (.str d.shown) H) := by
  intro pins s σ H xs us Q I r h
  obtain ⟨a, d, rfl, hd, h1, h2, h3, h4, q⟩ := h
  obtain ⟨u, rfl, ru⟩ := vals1 r
  obtain ⟨as, rd⟩ := Dp.reads I d _ u hd ru
  cases ru
  refine repr_of_reads' rd h1 (fun z => ?_) hg (by omega) (fun _ _ e => e) (fun h' u tk hk => ?_) h4
  · rw [h2] at z
    cases z
  · exact ⟨.str _, H, I.kept hk, ⟨u, rfl⟩, q⟩

/-- a def's promise, where no repr is under way -/
structure FnG (P : Program) (w : World) (K : PySem.W.Frag) (mg : Str → Option Value) (base : Heap)
    (CX : CXT) (k : Nat) (f : Addr) (fd : FuncData) (ps : List Str) (sp : Sp) : Prop where
  ln : ∀ {vs H Q E}, sp vs H Q E → vs.length = ps.length
  go : ∀ {A outer s H args us vs Q E}, A.guards = some [] → Room k A → Env0 P w K mg base A outer s H →
    BindsTo s fd args (ps.zip us) → Vals vs us → sp vs H Q E → codeAny (model P w) A (.call (.ref f) args) (CR CX outer P w H s Q E) s

section
variable {P : Program} {w : World} {K : PySem.W.Frag} {mg : Str → Option Value} {base : Heap} {CX : CXT} {k : Nat} {f : Addr} {fd : FuncData} {ps N : List Str} {sp : Sp}
theorem FnG.up {j : Nat} (F : FnG P w K mg base CX j f fd ps sp) (h : j ≤ k) : FnG P w K mg base CX k f fd ps sp :=
  ⟨F.ln, fun g hr => F.go g (hr.mono h)⟩
theorem FnG.of (F : FnOk P w K mg base CX k f fd ps sp) : FnG P w K mg base CX k f fd ps sp :=
  ⟨fun h => F.len _ _ _ _ h, fun _ hr e b v h => F.run _ _ _ _ _ _ _ _ _ hr e b v h⟩

theorem fun_g {x qual : Str} {st : Stmt} (F : Fun K x qual st f fd) (S : FnScope N ps (defScope st)) (ln : ∀ {vs H Q E}, sp vs H Q E → vs.length = ps.length)
    (bd : ∀ (cdv : Value) (A : Around) (outer : List Env) (s : Shared) (H : Hp) (vs : List V) (Q : VK) (E : XK), A.guards = some [] →
      Room k (A.deeper (envOfC qual (defScope st) s.heap.objs.size f cdv)) → sp vs H Q E →
      ∃ t, PSs (cxOf CX P w K mg base N qual (defScope st) f cdv A outer s H E) (defBody st) t ∧
        t { nx := fun _ H' => Q .non H', rt := Q } (start N vs) H) :
    FnG P w K mg base CX (k + 1) f fd ps sp := by
  obtain ⟨oc, od, kV, doc, pm, an, cdv, ct, osl, rfl, lk, hcd⟩ := F.ex
  refine ⟨ln, ?_⟩
  intro A outer s H args us vs Q E g hr e0 hb rl hsp
  have stay : ∀ b o, base.get? b = some o → s.heap.get? b = some o := fun b o e => (e0.bs b o e).1
  have kin := e0.mod.kin.keeps stay
  have nol := e0.mod.nolimit.keeps stay
  refine codeAny_call_function hr.depth (kin _ _ lk) rfl S.co S.gen rfl (PySem.W.codeRec_of kin hcd) (hb _ _ _ _ ?_)
  refine wpAny_newFunctionEnv_cells S.kind ?_ ?_
  · rintro ⟨n, v⟩ hy
    refine (S.par n (List.of_mem_zip hy).1).imp id fun q => ⟨q, ?_⟩
    exact PySem.W.cellsFrom_some _ _ _ (.inl q)
  · rintro env rfl s1 x
    refine ⟨nol.keeps x.toInCall.keep, codeAny_func ?_⟩
    obtain ⟨t, ht, hq⟩ := bd cdv A outer s H vs Q E g (hr.deeper _) hsp
    have I := inv_start (CX := CX) (E := E) (outer := outer) S hr.hd e0 (ln hsp) rl x
    refine wpAny_mono (ht.run [] s1 (start N vs) H _ I hq) ?_ (fun _ _ z => z)
    rintro (_ | _ | _ | u) s' z
    all_goals first
      | (obtain ⟨σ', H', J, q⟩ := z
         exact ⟨V.non, H', J.os, J.bare, J.base, J.hok, rfl, q⟩)
      | (obtain ⟨_, _, _, q⟩ := z
         exact q.elim)
      | (obtain ⟨v, σ', H', J, rv, q⟩ := z
         exact ⟨v, H', J.os, J.bare, J.base, J.hok, rv, q⟩)
end
end Gy

namespace Gy
open PySem PySem.Spec PyProof.Rows L2

/-- the readings of the two calls below -/
def tG (sp : Sp) (E : XK) (t : TA) : TE := fun σ H Q => t σ H fun vs H1 => sp vs H1 Q E
def tKw0 (sp : Sp) (gV : List V → List V → List V) (E : XK) (tk : TA) : TE := fun σ H Q => tk σ H fun zs H1 => sp (gV [] zs) H1 Q E
section
variable {X : Cx} {CX : CXT} {k : Nat} {f : Addr} {fd : FuncData} {ps ks : List Str} {sp : Sp} {E : XK} {x : Str} {p pos : Pos} {e : Expr} {es : List Expr} {kws : List Keyword} {t tk : TA}
variable {g : List Value → List Value → List Value} {gV : List V → List V → List V}
/-- f(e, ..) of a def that wants to know of repr -/
theorem pe_callG (F : FnG X.prog X.w X.K X.mg X.base CX k f fd ps sp) (gd : X.A.guards = some []) (hr : Room k X.A) (hg : Gl X x)
    (hm : X.mg x = some (.ref f)) (hk : PySem.W.keepIn X.K (.ref f) = true) (hb : Binds X.K fd ps []) (hx : Passes CX X E) (ha : PA X (e :: es) t)
    (hdb : (x == ("__debug__" : Str)) = false := by decide) (he : starEach (e :: es) X.env = (false, eval e X.env) :: starEach es X.env := by rfl)
    (hpl : (backTo pos (starEach es X.env)).any (·.1) = false := by rfl) :
    PE X (.Call (.Name x p) (e :: es) [] pos) (tG sp E t) := by
  constructor
  intro pins s σ H Q I h
  refine wpAny_Call_Name_kw (ld_glob I hg hm ?_ hdb)
  refine PySem.W.callWith_K (h₀ := X.base) I.ok.mod.kin hk (thn (ha.run pos pins s σ H _ I h) ?_) he hpl
  rintro us s1 ⟨vs, H1, I1, r, q⟩
  refine ⟨I1.kIn, wpAny_call (codeAny_mono (F.go (args := ⟨us, []⟩) gd hr I1.env0 ?_ r q) ?_)⟩
  · have b := hb s1 us I1.kIn (by rw [List.append_nil, ← r.length]; exact F.ln q)
    rwa [List.append_nil] at b
  · rintro (er | (_ | _ | _ | u)) s' z
    · exact hx pins σ H1 s1 er s' I1 z
    · exact z.elim
    · exact z.elim
    · exact z.elim
    · exact I1.after z
/-- f(k = v, ..), nothing by position -/
theorem pe_kw0 (F : FnOk X.prog X.w X.K X.mg X.base CX k f fd ps sp) (hr : Room k X.A) (hg : Gl X x) (hm : X.mg x = some (.ref f))
    (hk : PySem.W.keepIn X.K (.ref f) = true) (hb : KBinds X.K fd ps ks g gV) (hx : Passes CX X E) (hkw : PK X kws tk)
    (hall : (backToKw pos (keywordEach kws X.env)).all (·.1.isSome) = true := by rfl) (hks : (backToKw pos (keywordEach kws X.env)).filterMap (·.1) = ks := by rfl)
    (hdb : (x == ("__debug__" : Str)) = false := by decide)
    (hpl : ((backTo pos (starEach [] X.env)).any (·.1) || (backToKw pos (keywordEach kws X.env)).any (·.1.isNone)) = false := by rfl) :
    PE X (.Call (.Name x p) [] kws pos) (tKw0 sp gV E tk) := by
  constructor
  intro pins s σ H Q I h
  refine wpAny_Call_Name_kw (ld_glob I hg hm ?_ hdb)
  refine PySem.W.callWith_KW0 (h₀ := X.base) I.ok.mod.kin hk hall (thn (hkw.run pos pins s σ H _ I h) ?_) hpl
  rintro ws s2 ⟨zs, H2, I2, rz, q2⟩
  rw [hks]
  exact ⟨I2.kIn, run_fnk (us := []) F hr hb hx I2 .nil rz q2⟩
end

/-- the law's call, its def a FnG -/
theorem end_g {P : Program} {w : World} {K : PySem.W.Frag} {mg mb : Str → Option Value} {CX : CXT} {k : Nat} {fa a : Addr} {fd : FuncData} {x : Str} {sp : Sp}
    {s : Shared} {vs : List Value} {ns : List Int} (kin : K.In s.heap) (hns : s.heap.Ns mainGlobals mg) (hb : s.heap.Ns builtinsNs mb)
    (hbb : ∀ x : Str, x ≠ "__name__" → mb x = bootBuiltins x) (nol : s.heap.NoLimit) (hg : s.gens = #[])
    (ha : s.heap.get? a = some { cls := .type "list", data := .seq vs.toArray }) (hi : IntsAre vs ns) (hl : ns.length ≤ sizeLine) (hr : Room k callerA)
    (F : ∀ base : Heap, K.In base → base.Ns mainGlobals mg → FnG P w K mg base CX k fa fd [x] sp)
    (bnd : ∀ (s : Shared) (u : Value), BindsTo s fd ⟨[u], []⟩ [(x, u)])
    (hsp : ∀ H : Hp, Only H → SqL K H a (ns.map V.int) → sp [.ref a] H (fun v _ => v = .bl true) fun _ _ _ => False)
    (hCX : ∀ H e s', CX [] H s (fun _ _ _ => False) e s' → False) :
    codeAny (model P w) callerA (.call (.ref fa) ⟨[.ref a], []⟩)
      (fun r s' => r = .ok (.ret (.bool true)) ∧ OldK s.heap s'.heap ∧ s'.os = s.os ∧ AllBare s'.gens) s := by
  have main : ∀ H : Hp, Only H → SqL K H a (ns.map V.int) → HOk P w H s.heap → (∀ b, H b ≠ none → b = a) → (H a ≠ none → K.lookup a = none) →
      codeAny (model P w) callerA (.call (.ref fa) ⟨[.ref a], []⟩)
        (fun r s' => r = .ok (.ret (.bool true)) ∧ OldK s.heap s'.heap ∧ s'.os = s.os ∧ AllBare s'.gens) s := by
    intro H only seq hok alone notK
    have noD : ∀ {b o es ep}, s.heap.get? b = some o → o.data = .dict es ep → H b = none := by
      intro b o es ep e d
      cases q : H b with
      | none => rfl
      | some u =>
        obtain rfl := alone b (by rw [q]; exact fun z => nomatch z)
        rw [ha] at e
        cases e
        exact nomatch d
    have nsB : ∀ {b m}, s.heap.Ns b m → (hidT s.heap H).Ns b m := by
      rintro b m ⟨o, es, ep, e, d, r⟩
      exact ⟨o, es, ep, hidT_get e (noD e d), d, r⟩
    have kB : K.In (hidT s.heap H) := by
      intro b o e
      refine hidT_get (kin b o e) ?_
      cases q : H b with
      | none => rfl
      | some u =>
        obtain rfl := alone b (by rw [q]; exact fun z => nomatch z)
        rw [notK (by rw [q]; exact fun z => nomatch z)] at e
        cases e
    obtain ⟨mc, l1, l2⟩ := nol
    have e0 : Env0 P w K mg (hidT s.heap H) callerA [] s H := by
      refine ⟨rfl, ⟨kB, nsB hns, ⟨mb, nsB hb, hbb⟩, ⟨mc, nsB l1, l2⟩⟩, fun b o e => of_hidT e, Nat.le_of_eq (hidT_size _ _), trivial, ?_, hok, .of_eq hg⟩
      intro b z
      exact nomatch (show b ∈ ([] : List Addr) from z)
    have run := (F _ kB (nsB hns)).go (A := callerA) (args := ⟨[.ref a], []⟩) (us := [.ref a]) (vs := [V.ref a]) rfl hr e0 (bnd s (.ref a)) (.cons rfl .nil) (hsp H only seq)
    refine codeAny_mono run ?_
    rintro (er | (_ | _ | _ | u)) s' z
    · exact (hCX H er s' z).elim
    · exact z.elim
    · exact z.elim
    · exact z.elim
    · obtain ⟨v, H', os, bare, un, hok', rv, q⟩ := z
      cases (show v = .bl true from q)
      cases (show u = Value.bool true from rv)
      refine ⟨rfl, OldK.of_keep fun b o e => ?_, os, bare⟩
      rcases only b with n | ⟨ob, xs, y⟩
      · exact un.keep b o e n (fun z => nomatch (show b ∈ ([] : List Addr) from z)) (fun z => nomatch z)
      · obtain ⟨e1, _⟩ := hok b _ y
        obtain ⟨e2, _⟩ := hok' b _ (un.frzs b ob _ y)
        rw [e] at e1
        cases e1
        exact e2
  have rv := vals_ints hi
  cases hk : K.lookup a with
  | some o =>
    have e := kin a o hk
    rw [ha] at e
    cases e
    refine main (fun _ => none) (fun _ => .inl rfl) (.inr ⟨_, vs.toArray, _, hk, rfl, rfl, rfl, ?_, rv⟩) (fun b u z => nomatch z) (fun b z => absurd rfl z) (fun z => absurd rfl z)
    rw [List.size_toArray, hi.length]
    exact hl
  | none =>
    let ob : Obj := { cls := .type "list", data := .seq vs.toArray }
    refine main (fun b => if b = a then some (.frz ob (.lst (ns.map V.int))) else none) (fun b => ?_) (.inl (.inr ⟨ob, if_pos rfl⟩)) (fun b u z => ?_) (fun b z => ?_) (fun _ => hk)
    · by_cases q : b = a
      · exact .inr ⟨_, _, if_pos q⟩
      · exact .inl (if_neg q)
    · by_cases q : b = a
      · have y := (if_pos q).symm.trans z
        cases y
        subst q
        exact ⟨ha, by rw [List.length_map]; exact hl, vs, _, rv, ha⟩
      · have y := (if_neg q).symm.trans z
        cases y
    · by_cases q : b = a
      · exact q
      · exact absurd (if_neg q) z

/-- what k_head leaves, from a law that is a FnG -/
theorem walk_g {l : PySem.W.OpenLaw} {n k : Nat} {q : Program} {loose : List Str} {XP : (Str → Option Value) → Heap → Prop} {YP : World → Heap → Prop} {d : DefRec}
    {K : Params → PySem.W.Frag} {sp : PySem.W.Frag → Sp} {x : Str} (hn : l.most = some n) (hn2 : n ≤ sizeLine) (hdf : d.params.defaults = []) (hr : Room k callerA)
    (hY : ∀ (w : World) (h : Heap), YP w h → (K w.params).In h)
    (F : ∀ (w : World) (mg : Str → Option Value) (fa : Addr) (h : Heap), (K w.params).In h → h.Ns mainGlobals mg → mg d.name = some (.ref fa) →
      ∃ fd : FuncData, (∀ (s : Shared) (u : Value), BindsTo s fd ⟨[u], []⟩ [(x, u)]) ∧
        ∀ base : Heap, (K w.params).In base → base.Ns mainGlobals mg → FnG l.prog w (K w.params) mg base CX0 k fa fd [x] (sp (K w.params)))
    (hsp : ∀ (K : PySem.W.Frag) (H : Hp) (a : Addr) (ns : List Int), ns.length ≤ n → SqL K H a (ns.map V.int) → sp K [.ref a] H (fun v _ => v = .bl true) fun _ _ _ => False) :
    PySem.W.WalkO q loose XP YP l.row.toRowW d [] (fun f vs => PySem.call f vs) := by
  refine Att.attach_call hn hdf ?_
  intro w s₀ s₁ mg mb fa o pm cd doc a vs ns G Y ho hd hcd hmg hobj hints hlen hg
  have kin := hY w _ Y
  obtain ⟨fd, hb, hF⟩ := F w mg fa _ kin G.T.g hmg
  exact end_g kin G.T.g G.T.b G.T.builtins G.T.nolimit hg hobj hints (Nat.le_trans hlen hn2) hr hF hb (fun H _ hS => hsp _ H a ns hlen hS) (fun _ _ _ z => z)
end Gy

/-! An own exception class called with keywords: BaseException.__new__ takes them and forgets them, the own __init__ gets them. -/
namespace PySem
namespace Xg
open Builtin Builtin.ObjectAttr
section
variable {M : Model} {A : Around} {E : Value → Shared → Prop} {h : Heap} {g : Array GenState} {d : Drawn} {t : Nat} {os : OsState}
variable {nm q : Str} {C N : Addr} {bs bm bmB : List Value} {hdct : Bool} {sn : List Str} {sub : List Value} {ab : Bool} {col : Option Bool} {dd : Option Addr} {k0 k1 k2 k3 k5 : Option Value} {B newId initId : String}
theorem kw_check (F : ExcBaseFacts B newId initId bmB) (hT : ∀ X : String, bm.contains (.type X) = bmB.contains (.type X)) {us : List Value} {kw : List (Str × Value)} {Q : Unit → Shared → Prop}
    (cl : h.get? C = some (excClassObj nm q C N bs bm hdct sn sub ab col dd k0 k1 k2 k3 k5 newId)) (z : Q () ⟨h, g, d, t, os⟩) :
    wpAny M A (checkBuiltinCall newId ⟨.ref C :: us, kw⟩) Q E ⟨h, g, d, t, os⟩ := by
  have has : (Value.ref C :: bm).contains (.type B) = true := by
    rw [List.contains_cons, hT, F.hasB, Bool.or_true]
  have star := F.noStar
  simp only [checkBuiltinCall, F.newKind, F.newSplit, F.newRow]
  repeat (first
    | refine wpAny_loadPart_at cl ?_
    | (refine wpAny_isSubtype_exc cl ?_; rw [has])
    | refine wpAny_staticBase_exc cl ?_
    | refine wpAny_madeBy_exc cl ?_
    | simp only [bne_self_eq_false, Bool.false_eq_true, if_false]
    | wp_step)
  exact z
end
section
variable {prog : Program} {w : World} {A : Around} {E : Value → Shared → Prop} {R : Result → Shared → Prop} {h : Heap} {g : Array GenState} {d : Drawn} {t : Nat} {os : OsState}
variable {nm q : Str} {C N : Addr} {bs bm bmB : List Value} {hdct : Bool} {sn : List Str} {sub : List Value} {ab : Bool} {col : Option Bool} {dd : Option Addr} {k0 k1 k2 k3 k5 : Option Value} {B newId initId : String}
theorem kw_new (F : ExcBaseFacts B newId initId bmB) (hT : ∀ X : String, bm.contains (.type X) = bmB.contains (.type X)) {us : List Value} {kw : List (Str × Value)}
    (cl : h.get? C = some (excClassObj nm q C N bs bm hdct sn sub ab col dd k0 k1 k2 k3 k5 newId))
    (z : R (.ok (.ret (.ref (h.objs.size + 1)))) ⟨(h.push (W.kdv_tup us)).push (PX.excO C h.objs.size), g, d, t, os⟩) (len : us.length ≤ sizeLine) :
    codeAny (model prog w) A (.builtin newId ⟨.ref C :: us, kw⟩) R ⟨h, g, d, t, os⟩ := by
  have ends := F.ends
  have hB : (Value.ref C :: bm).contains (.type B) = true := by
    rw [List.contains_cons, hT, F.hasB, Bool.or_true]
  have hA : (Value.ref C :: bm).contains (.type "AttributeError") = false := by
    rw [List.contains_cons, hT, F.noAttr]
    rfl
  have hN : (Value.ref C :: bm).contains (.type "NameError") = false := by
    rw [List.contains_cons, hT, F.noName]
    rfl
  refine codeAny_builtinAt F.entry ?_
  unfold Builtin.«BaseException.__new__»
  refine wpAt_bind ?_
  show wpAt _ _ _ (stack >>= _) _ _ _
  refine wpAt_bind (wpAt_stack fun p below => wpAt_of_wpAny ?_)
  wp_walk
  refine wpAt_of_wpAny ?_
  rw [F.owner]
  repeat (first
    | with_reducible refine wpAny_madeHere_exc F.canon cl ?_
    | with_reducible refine wpAny_loadPart_at cl ?_
    | (with_reducible refine wpAny_isSubtype_exc cl ?_; first | rw [hB] | rw [hA] | rw [hN])
    | wp_step)
  show R _ _
  rw [Heap.size_push]
  exact z
theorem kw_type (F : ExcBaseFacts B newId initId bmB) (hT : ∀ X : String, bm.contains (.type X) = bmB.contains (.type X)) {us : List Value} {kw : List (Str × Value)} {fI : Addr} {Q : Fin → Shared → Prop}
    (cl : h.get? C = some (excClassObj nm q C N bs bm hdct sn sub ab col dd k0 k1 k2 k3 k5 newId))
    (hi : W.Looks (model prog w) h (typeLookup (.ref C) "__init__") (some (.ref fI))) (hb : ∀ self, W.Looks (model prog w) h (bindSpecial (.ref fI) self) (.ref fI, [self]))
    (len : us.length ≤ sizeLine)
    (z : codeAny (model prog w) A (.call (.ref fI) ⟨.ref (h.objs.size + 1) :: us, kw⟩)
      (fun r s' => match r with | .ok (.ret v) => v = .none ∧ Q (.done (.ret (.ref (h.objs.size + 1)))) s' | .ok _ => False | .error e => E e s')
      ⟨(h.push (W.kdv_tup us)).push (PX.excO C h.objs.size), g, d, t, os⟩) :
    wpAny (model prog w) A (Builtin.«type.__call__» ⟨.ref C :: us, kw⟩) Q E ⟨h, g, d, t, os⟩ := by
  repeat (first
    | with_reducible refine wpAny_loadPart_at cl ?_
    | with_reducible refine wpAny_madeBy_exc cl ?_
    | wp_step)
  refine codeAny_call_builtin_code (Code.quiet_builtin _ F.quiet) (kw_check F hT cl ?_)
  refine kw_new F hT cl ?_ len
  show wpAny _ _ _ _ _ _
  have keep : ∀ b o, h.get? b = some o → ((h.push (W.kdv_tup us)).push (PX.excO C h.objs.size)).get? b = some o := fun b o e =>
    Heap.get?_push_of_some _ (Heap.get?_push_of_some _ e)
  have cl1 := keep _ _ cl
  have new : ((h.push (W.kdv_tup us)).push (PX.excO C h.objs.size)).get? (h.objs.size + 1) = some (PX.excO C h.objs.size) := by heap_get
  have self : (Value.ref C :: bm).contains (.ref C) = true := by simp
  have i1 := hi.keeps keep
  have b1 := (hb (.ref (h.objs.size + 1))).keeps keep
  unfold isInstance
  repeat (first
    | with_reducible refine wpAny_loadPart_at new ?_
    | (with_reducible refine wpAny_isSubtype_exc cl1 ?_; rw [self])
    | wp_step)
  show wpAny _ _ (typeLookup (.ref C) _) _ _ _
  refine i1.at ?_
  refine wpAny_holding (wpAny_bind (b1.at ?_))
  refine wpAny_bind (wpAny_call (codeAny_mono z fun r s' y => ?_))
  rcases r with e | (v | _ | _ | _) <;> first | exact y | exact y.elim | skip
  obtain ⟨rfl, y⟩ := y
  first
    | exact wpAny_pure (wpAny_pure y)
    | (wp_walk; exact y)
theorem kw_call (F : ExcBaseFacts B newId initId bmB) (hT : ∀ X : String, bm.contains (.type X) = bmB.contains (.type X)) {us : List Value} {kw : List (Str × Value)} {fI : Addr}
    (cl : h.get? C = some (excClassObj nm q C N bs bm hdct sn sub ab col dd k0 k1 k2 k3 k5 newId))
    (hi : W.Looks (model prog w) h (typeLookup (.ref C) "__init__") (some (.ref fI))) (hb : ∀ self, W.Looks (model prog w) h (bindSpecial (.ref fI) self) (.ref fI, [self]))
    (len : us.length ≤ sizeLine)
    (z : codeAny (model prog w) (A.under (.builtin "type.__call__" ⟨.ref C :: us, kw⟩)) (.call (.ref fI) ⟨.ref (h.objs.size + 1) :: us, kw⟩) (W.InitBack (h.objs.size + 1) R)
      ⟨(h.push (W.kdv_tup us)).push (PX.excO C h.objs.size), g, d, t, os⟩) :
    codeAny (model prog w) A (.call (.ref C) ⟨us, kw⟩) R ⟨h, g, d, t, os⟩ := by
  have f1 := tc_lookup
  have f2 := tc_bind (.ref C)
  have ty : (⟨h, g, d, t, os⟩ : Shared).TypeIs (.ref C) "type" := ⟨_, cl, rfl⟩
  refine codeAny_of_tree ?_
  show wpAny _ _ (callAny (.ref C) _) _ _ _
  repeat (any_goals (first | assumption | with_reducible refine wpAny_loadPart_at cl ?_ | wp_step))
  refine ⟨rfl, ?_⟩
  refine codeAny_call_builtin_at (Code.quiet_builtin _ (by decide +kernel)) entry_typeCall (wpAny_check_type_call_sub cl (kw_type F hT cl hi hb len ?_))
  refine codeAny_mono z fun r s' y => ?_
  rcases r with e | (v | _ | _ | _) <;> exact y
end
end Xg
end PySem

/-! Own exception classes over any built-in base, made as values: by position, by name; their fields stored and read; isinstance. -/
namespace PySem
namespace Xg
open PySem.W PySem.Calls PyProof.Rows Builtin Builtin.ObjectAttr
section
variable {prog : Program} {w : World} {A : Around} {R : Result → Shared → Prop} {hp : Heap} {g : Array GenState} {d : Drawn} {t : Nat} {os : OsState} {K : Frag} {B : String} {bmB : List Value}
/-- the first field: the dict is made -/
theorem osa_first (SF : StoreFacts B bmB "object.__setattr__" "object") {name : Str} {tk : Tok} {v : Value} {x C t1 : Addr} (kin : K.In hp)
    (at_ : hp.get? x = some (PX.excO C t1)) (ov : excOver K C bmB = true) (no : takerIn K C name = some none) (hh : hasDictIn K C = true)
    (z : ∀ h' tk' dx, (∀ b o, b ≠ x → hp.get? b = some o → h'.get? b = some o) → hp.objs.size ≤ dx → dx ≠ x →
      h'.get? x = some { PX.excO C t1 with dict := some dx } → h'.Ns1 dx (fun y => if y = name then some v else none) → R (.ok (.ret .none)) ⟨h', g, d, tk', os⟩) :
    codeAny (model prog w) A (.call (.builtin "object.__setattr__") ⟨[.ref x, .str name tk, v], []⟩) R ⟨hp, g, d, t, os⟩ := by
  obtain ⟨cd, hc, hd'⟩ := any_some hh
  have lt := Heap.lt_size at_
  refine osa_openX (od := none) (s := ⟨hp, g, d, t, os⟩) SF kin ⟨at_, rfl, rfl, trivial⟩ ov no fun b => ?_
  refine wpAny_bind (wpAny_pure (wpAny_bind (instanceDict_exc (s := ⟨hp, g, d, t, os⟩) (c2 := .none) at_ (looks_clsIn kin hc) hd' ?_)))
  show wpAny _ _ (storeInDict hp.objs.size (.str name tk) name v) _ _ _
  refine HandSPX.store_in_new ?_ fun h' tk' hn hs => ?_
  · exact ⟨_, #[], _, (Heap.get?_update_ne _ _ _ _ (Nat.ne_of_gt lt)).trans (Heap.get?_push_at rfl rfl), rfl, fun e he => absurd he (by simp), fun _ => rfl⟩
  · refine z h' tk' hp.objs.size (fun b o nb e => ?_) (Nat.le_refl _) (Nat.ne_of_gt lt) ?_ hn
    · rw [hs.2 b (Nat.ne_of_lt (Heap.lt_size e)), Heap.get?_update_ne _ _ _ _ nb]
      exact Heap.get?_push_of_some _ e
    · rw [hs.2 x (Nat.ne_of_lt lt)]
      exact Heap.get?_update_self _ (Heap.get?_push_of_some _ at_) rfl
/-- a further field -/
theorem osa_next (SF : StoreFacts B bmB "object.__setattr__" "object") {name : Str} {tk : Tok} {v : Value} {x C t1 dx : Addr} {m0 : Str → Option Value} {nl : List Str} (kin : K.In hp)
    (at_ : hp.get? x = some { PX.excO C t1 with dict := some dx }) (ns : hp.Ns1 dx m0) (wi : Within m0 nl) (few : nl.length ≤ 1000)
    (ov : excOver K C bmB = true) (no : takerIn K C name = some none) (hh : hasDictIn K C = true)
    (z : ∀ h' tk', (∀ b o, b ≠ dx → hp.get? b = some o → h'.get? b = some o) → h'.Ns1 dx (fun y => if y = name then some v else m0 y) → R (.ok (.ret .none)) ⟨h', g, d, tk', os⟩) :
    codeAny (model prog w) A (.call (.builtin "object.__setattr__") ⟨[.ref x, .str name tk, v], []⟩) R ⟨hp, g, d, t, os⟩ := by
  obtain ⟨cd, hc, hd'⟩ := any_some hh
  obtain ⟨oD, _, _, gD, _, _⟩ := ns.count wi
  refine osa_openX (od := some oD) (s := ⟨hp, g, d, t, os⟩) SF kin ⟨at_, rfl, rfl, gD⟩ ov no fun b => ?_
  refine wpAny_bind (wpAny_pure (wpAny_bind (wpAny_bind (wpAny_loadPart at_ (wpAny_bind ((looks_clsIn kin hc).here ?_))))))
  rw [hd']
  refine wpAny_pure (a := some dx) ?_
  exact OEX.store_in_old ns wi few fun h' tk' hn hs => z h' tk' (fun b o nb e => (hs.2 b nb).trans e) hn
end
end Xg
end PySem

namespace Xl
open PySem PySem.Spec PyProof.Rows L2 Gy
/-- what the written part says of an own exception class at C -/
structure XCl (K : PySem.W.Frag) (C : Addr) : Prop where
  base : ∃ B newId initId bmB, ExcBaseFacts B newId initId bmB ∧ StoreFacts B bmB "object.__setattr__" "object" ∧ PySem.W.excInitIn K C bmB newId = true ∧ PySem.W.excOver K C bmB = true
  sa : PySem.W.findIn K (.ref C) "__setattr__" = some (some (.builtin "object.__setattr__"))
  ga : PySem.W.findIn K (.ref C) "__getattribute__" = some (some (.builtin "BaseException.__getattribute__"))
  gg : PySem.W.findIn K (.ref C) "__getattr__" = some none
  ca : PySem.W.findIn K (.ref C) "__class__" = some (some (.builtin "object.__class__"))
  ex : PySem.W.subIn K (.ref C) (.type "BaseException") = some true
  ob : PySem.W.mroIn K C (.type "object") = some true
  hd : PySem.W.hasDictIn K C = true
  kp : PySem.W.keepIn K (.ref C) = true
/-- its __init__ stands at fI -/
structure XIn (K : PySem.W.Frag) (C fI : Addr) : Prop extends XCl K C where
  ini : PySem.W.findIn K (.ref C) "__init__" = some (some (.ref fI))
  tf : PySem.W.typeIn K (.ref fI) = some (.type "function")
section
variable {X : Cx} {pins : List (Addr × Obj)} {σ : L2.St} {H : Hp} {s : Shared} {a C dx : Addr} {f : Str} {y : V} {u : Value} {fs : List (Str × V)} {Q : Unit → Shared → Prop} {E : Value → Shared → Prop} {A : Around}
theorem set_new (T : XCl X.K C) (I : Inv X pins σ H s) (e : H a = some (exo a C none)) (no : PySem.W.findIn X.K (.ref C) f = some none) (ry : RelV y u)
    (z : ∀ dx s', H dx = none → dx ≠ a → Inv X pins σ (upd (upd H dx (exd dx [(f, y)])) a (exo a C (some dx))) s' → Q () s') :
    wpAny (model X.prog X.w) A (setAttr (.ref a) f u) Q E s := by
  obtain ⟨B, nI, iI, bmB, _, SF, _, ov⟩ := T.base
  obtain ⟨t1, at_⟩ := exo_at I.hok e
  obtain ⟨hp, g, d, t, os⟩ := s
  have tk : PySem.W.takerIn X.K C f = some none := by
    unfold PySem.W.takerIn
    rw [no]
    rfl
  refine PySem.W.set_plain I.kIn (od := none) ⟨at_, rfl, rfl, trivial⟩ T.sa ?_
  refine PySem.Xg.osa_first SF I.kIn at_ ov tk T.hd ?_
  intro h' tk' dx keep big ne atX ns
  have free : H dx = none := I.hok.fresh big
  have old : ∀ {b o}, hp.get? b = some o → b ≠ dx := fun q => Nat.ne_of_lt (Nat.lt_of_lt_of_le (Heap.lt_size q) big)
  have noA : ∀ {b}, H b = none → b ≠ a := fun {b} n y => by
    rw [y, e] at n
    cases n
  have other : ∀ {b o}, H b = some o → o ≠ exo a C none → upd (upd H dx (exd dx [(f, y)])) a (exo a C (some dx)) b = some o := by
    intro b o q ne'
    have nb : b ≠ a := fun y => by
      rw [y, e] at q
      exact ne' (Option.some.inj q).symm
    rw [upd_ne nb, upd_ne (ne_of_none q free)]
    exact q
  have U : Un X.fs [] H (upd (upd H dx (exd dx [(f, y)])) a (exo a C (some dx))) hp h' := by
    refine ⟨fun b o q n _ _ => keep b o (noA n) q, fun b o q n _ _ => ⟨o.slots, keep b o (noA n) q⟩, fun b o q n _ => ?_, fun b o q _ => ?_, fun b xs q => ?_, fun b o v q => ?_, fun b ps q => ⟨#[], ?_⟩⟩
    · rw [upd_ne (noA n), upd_ne (old q)]
      exact n
    · by_cases nb : b = a
      · exact ⟨_, by rw [nb]; exact atX⟩
      · exact ⟨o, keep b o nb q⟩
    · exact other q (fun y => exo_tup y.symm)
    · exact other q (fun y => exo_frz y.symm)
    · rw [other q (fun y => exo_tbl y.symm)]
      simp
  refine z dx _ free ne (I.un (t' := tk') U ?_)
  intro b o q
  by_cases nb : b = a
  · subst nb
    rw [upd_same] at q
    cases q
    exact exo_ok atX
  · rw [upd_ne nb] at q
    by_cases nd : b = dx
    · subst nd
      rw [upd_same] at q
      cases q
      exact exd_ok ns (relO_put (fs := []) ry fun _ => True.intro)
    · rw [upd_ne nd] at q
      refine (I.hok b o q).stay (fun c v hc y => keep c v ?_ y) (fun c hc => other hc (fun y => exo_own y.symm)) (fun c xs hc => other hc (fun y => exo_tup y.symm))
      rcases hc with hc | hc
      · rw [hc]
        exact nb
      · exact at_ne e hc exo_own
theorem set_more (T : XCl X.K C) (I : Inv X pins σ H s) (e : H a = some (exo a C (some dx))) (ed : H dx = some (exd dx fs)) (few : fs.length ≤ 900) (no : PySem.W.findIn X.K (.ref C) f = some none) (ry : RelV y u)
    (z : ∀ s', Inv X pins σ (upd H dx (exd dx ((f, y) :: fs))) s' → Q () s') : wpAny (model X.prog X.w) A (setAttr (.ref a) f u) Q E s := by
  obtain ⟨B, nI, iI, bmB, _, SF, _, ov⟩ := T.base
  obtain ⟨t1, at_⟩ := exo_at I.hok e
  obtain ⟨mA, ns, rel⟩ := exd_at I.hok ed
  have wi := within_of rel
  obtain ⟨hp, g, d, t, os⟩ := s
  obtain ⟨oD, _, _, gD, _, _⟩ := ns.count wi
  have tk : PySem.W.takerIn X.K C f = some none := by
    unfold PySem.W.takerIn
    rw [no]
    rfl
  refine PySem.W.set_plain I.kIn (od := some oD) ⟨at_, rfl, rfl, gD⟩ T.sa ?_
  refine PySem.Xg.osa_next SF I.kIn at_ ns wi (by rw [List.length_map]; omega) ov tk T.hd ?_
  intro h' tk' keep hn
  have there : ∃ o, h'.get? dx = some o := by
    obtain ⟨o, _, _, q, _⟩ := hn
    exact ⟨o, q⟩
  exact z _ (I.write (t' := tk') (x := dx) (e := dx) (o := exd dx ((f, y) :: fs)) (by rw [ed]; trivial) (.inl rfl) keep there (exd_ok hn (relO_put ry rel)))
end
/-! ### readings and rules -/
/-- self.f = e in such an __init__ -/
def tXs (K : PySem.W.Frag) (f : Str) (to te : TE) : TS := fun D σ H => te σ H fun y H1 => to σ H1 fun x H2 => ∃ a C : Addr, x = .ref a ∧ XCl K C ∧ PySem.W.findIn K (.ref C) f = some none ∧
  ((H2 a = some (exo a C none) ∧ ∀ dx, H2 dx = none → dx ≠ a → D.nx σ (upd (upd H2 dx (exd dx [(f, y)])) a (exo a C (some dx)))) ∨
    ∃ (dx : Addr) (fs : List (Str × V)), H2 a = some (exo a C (some dx)) ∧ H2 dx = some (exd dx fs) ∧ fs.length ≤ 900 ∧ D.nx σ (upd H2 dx (exd dx ((f, y) :: fs))))
/-- C(..): the object made, then __init__ -/
def tXm (C : Addr) (sp : Sp) (gV : List V → List V → List V) (t tk : TA) : TE := fun σ H Q => t σ H fun vs H0 => tk σ H0 fun zs H1 => vs.length ≤ 1000 ∧ ∀ a, H1 a = none →
  sp (.ref a :: gV vs zs) (upd H1 a (exo a C none)) (fun v H2 => v = .non ∧ Q (.ref a) H2) (fun _ _ _ => False)
section
variable {X : Cx} {o e : Expr} {es : List Expr} {kws : List Keyword} {to te : TE} {t tk : TA} {f : Str} {p p' pos : Pos}
theorem ps_xs (ho : PE X o to) (he : PE X e te) (hs : swapsWith e (some (.Attribute o f p')) pos.line X.env = pure false := by rfl) : PS X (.Assign [.Attribute o f p'] e pos) (tXs X.K f to te) := by
  constructor
  intro pins s σ H D I h
  refine plainObj_wpAny_Assign_Attribute (thn (he.run pins s σ H _ I h) ?_) hs
  rintro v s1 ⟨y, H1, I1, r1, q1⟩
  refine thn (ho.run pins s1 σ H1 _ I1 q1) ?_
  rintro u s2 ⟨x, H2, I2, r2, a, C, rfl, T, no, q⟩
  cases r2
  rcases q with ⟨ea, q⟩ | ⟨dx, fs, ea, ed, few, q⟩
  · exact set_new T I2 ea no r1 fun dx s' n ne J => ⟨σ, _, J, q dx n ne⟩
  · exact set_more T I2 ea ed few no r1 fun s' J => ⟨σ, _, J, q⟩
/-- how positional values and keywords come to __init__'s parameters -/
structure XB (K : PySem.W.Frag) (fd : FuncData) (ps ks : List Str) (g : List Value → List Value → List Value) (gV : List V → List V → List V) : Prop where
  to : ∀ (s : Shared) (b : Value) (us ws : List Value), K.In s.heap → (b :: g us ws).length = ps.length → BindsTo s fd ⟨b :: us, ks.zip ws⟩ (ps.zip (b :: g us ws))
  rel : ∀ {vs : List V} {us : List Value} {zs : List V} {ws : List Value}, Vals vs us → Vals zs ws → Vals (gV vs zs) (g us ws)
variable {CX : CXT} {C fI : Addr} {k : Nat} {fd : FuncData} {ps ks : List Str} {sp : Sp} {g : List Value → List Value → List Value} {gV : List V → List V → List V} {x : Str}
theorem run_x {pins : List (Addr × Obj)} {σ : L2.St} {H : Hp} {s : Shared} {Q : VK} {us ws : List Value} {vs zs : List V} (T : XIn X.K C fI) (F : FnOk X.prog X.w X.K X.mg X.base CX k fI fd ps sp) (hr : Room (k + 1) X.A)
    (hb : XB X.K fd ps ks g gV) (hx : Passes CX X (fun _ _ _ => False)) (I : Inv X pins σ H s) (r : Vals vs us) (rz : Vals zs ws) (len : vs.length ≤ 1000)
    (h : ∀ a, H a = none → sp (.ref a :: gV vs zs) (upd H a (exo a C none)) (fun v H2 => v = .non ∧ Q (.ref a) H2) (fun _ _ _ => False)) :
    wpAny (model X.prog X.w) X.A (call (.ref C) us (ks.zip ws)) (EP X pins σ Q) X.xe s := by
  obtain ⟨B, nI, iI, bmB, BF, _, ii, _⟩ := T.base
  obtain ⟨nm, N', qn, bs, bm, hdct, sn, sub, ab, col, dd, k0, k1, k2, k3, k5, cl, hT⟩ := PySem.W.excInit_of I.kIn ii
  obtain ⟨hp, g', dr, tk', os⟩ := s
  have big : hp.objs.size ≤ hp.objs.size + 1 := Nat.le_succ _
  have hq := h (hp.objs.size + 1) (I.hok.fresh big)
  have keep : ∀ b o, hp.get? b = some o → ((hp.push (PySem.W.kdv_tup us)).push (PySem.PX.excO C hp.objs.size)).get? b = some o := fun b o e =>
    Heap.get?_push_of_some _ (Heap.get?_push_of_some _ e)
  have new : ((hp.push (PySem.W.kdv_tup us)).push (PySem.PX.excO C hp.objs.size)).get? (hp.objs.size + 1) = some (PySem.PX.excO C hp.objs.size) := by heap_get
  have I2 := I.laid (t' := tk') (a := hp.objs.size + 1) (o := exo (hp.objs.size + 1) C none) keep big (exo_ok new)
  have r2 : Vals (V.ref (hp.objs.size + 1) :: gV vs zs) (Value.ref (hp.objs.size + 1) :: g us ws) := .cons rfl (hb.rel r rz)
  have bl := hb.to ⟨_, g', dr, tk', os⟩ (Value.ref (hp.objs.size + 1)) us ws I2.kIn (by rw [← r2.length]; exact F.len _ _ _ _ hq)
  refine wpAny_call (PySem.Xg.kw_call BF hT cl (PySem.W.looks_findIn I.kIn T.ini) (fun self => PySem.W.bind_fn I.kIn self T.tf) ?_ (codeAny_mono (F.run _ X.stack _ _ _ _ _ _ _ (hr.make C us (ks.zip ws)) (I2.env0.make C us (ks.zip ws)) bl r2 hq) ?_))
  · rw [← r.length, sizeLine_eq]
    omega
  · rintro (er | (_ | _ | _ | u)) s' z
    · exact hx pins σ _ _ er s' I2 z
    · exact z.elim
    · exact z.elim
    · exact z.elim
    · obtain ⟨v, H', I3, rv, ev, q3⟩ := I2.after z
      subst ev
      exact ⟨rv, V.ref (hp.objs.size + 1), H', I3, rfl, q3⟩
theorem pe_xm (T : XIn X.K C fI) (F : FnOk X.prog X.w X.K X.mg X.base CX k fI fd ps sp) (hr : Room (k + 1) X.A) (hg : Gl X x) (hm : X.mg x = some (.ref C)) (hb : XB X.K fd ps [] g gV) (hx : Passes CX X (fun _ _ _ => False))
    (ha : PA X (e :: es) t) (hdb : (x == ("__debug__" : Str)) = false := by decide) (he : starEach (e :: es) X.env = (false, eval e X.env) :: starEach es X.env := by rfl)
    (hpl : (backTo pos (starEach es X.env)).any (·.1) = false := by rfl) : PE X (.Call (.Name x p) (e :: es) [] pos) (tXm C sp gV t tNil) := by
  constructor
  intro pins s σ H Q I h
  refine wpAny_Call_Name_kw (ld_glob I hg hm ?_ hdb)
  refine PySem.W.callWith_K (h₀ := X.base) I.ok.mod.kin T.kp (thn (ha.run pos pins s σ H _ I h) ?_) he hpl
  rintro us s1 ⟨vs, H1, I1, r, q⟩
  obtain ⟨len, q⟩ := q
  exact ⟨I1.kIn, run_x (ks := []) (ws := []) T F hr hb hx I1 r .nil len q⟩
theorem pe_xm0 (T : XIn X.K C fI) (F : FnOk X.prog X.w X.K X.mg X.base CX k fI fd ps sp) (hr : Room (k + 1) X.A) (hg : Gl X x) (hm : X.mg x = some (.ref C)) (hb : XB X.K fd ps [] g gV) (hx : Passes CX X (fun _ _ _ => False))
    (hdb : (x == ("__debug__" : Str)) = false := by decide) : PE X (.Call (.Name x p) [] [] pos) (tXm C sp gV tNil tNil) := by
  constructor
  intro pins s σ H Q I h
  obtain ⟨len, q⟩ := h
  refine wpAny_Call_Name_kw (ld_glob I hg hm ?_ hdb)
  exact PySem.W.callWith_K0 I.kIn T.kp (run_x (us := []) (ks := []) (ws := []) T F hr hb hx I .nil .nil len q)
theorem pe_xk (T : XIn X.K C fI) (F : FnOk X.prog X.w X.K X.mg X.base CX k fI fd ps sp) (hr : Room (k + 1) X.A) (hg : Gl X x) (hm : X.mg x = some (.ref C)) (hb : XB X.K fd ps ks g gV) (hx : Passes CX X (fun _ _ _ => False))
    (hkw : PK X kws tk) (hall : (backToKw pos (keywordEach kws X.env)).all (·.1.isSome) = true := by rfl) (hks : (backToKw pos (keywordEach kws X.env)).filterMap (·.1) = ks := by rfl)
    (hdb : (x == ("__debug__" : Str)) = false := by decide)
    (hpl : ((backTo pos (starEach [] X.env)).any (·.1) || (backToKw pos (keywordEach kws X.env)).any (·.1.isNone)) = false := by rfl) :
    PE X (.Call (.Name x p) [] kws pos) (tXm C sp gV tNil tk) := by
  constructor
  intro pins s σ H Q I h
  refine wpAny_Call_Name_kw (ld_glob I hg hm ?_ hdb)
  refine PySem.W.callWith_KW0 (h₀ := X.base) I.ok.mod.kin T.kp hall (thn (hkw.run pos pins s σ H _ I h) ?_) hpl
  rintro ws s2 ⟨zs, H2, I2, rz, len, q2⟩
  rw [hks]
  exact ⟨I2.kIn, run_x (us := []) T F hr hb hx I2 .nil rz len q2⟩
/-- an exception of the class C stands at a, its fields fs -/
def XAt (K : PySem.W.Frag) (H : Hp) (a C : Addr) (fs : List (Str × V)) : Prop := XCl K C ∧ ((fs = [] ∧ H a = some (exo a C none)) ∨ ∃ d, H a = some (exo a C (some d)) ∧ H d = some (exd d fs))
/-- e.f -/
def tXf1 (K : PySem.W.Frag) (f : Str) (te : TE) : TE := fun σ H Q => te σ H fun x H1 => ∃ (a C : Addr) (fs : List (Str × V)) (v : V), x = .ref a ∧ XAt K H1 a C fs ∧ PySem.W.findIn K (.ref C) f = some none ∧ fs.lookup f = some v ∧ Q v H1
theorem pe_xf1 {n : Str} (he : PE X e te) (hb : attributeBase e n X.env (eval e X.env) = eval e X.env := by rfl) : PE X (.Attribute e n pos) (tXf1 X.K n te) := by
  constructor
  intro pins s σ H Q I h
  refine attr_of hb (thn (he.run pins s σ H _ I h) ?_)
  rintro u s1 ⟨x, H1, I1, rx, a, C, fs, v, rfl, ⟨T, at_⟩, no, l, q⟩
  cases rx
  rcases at_ with ⟨rfl, _⟩ | ⟨d, ea, ed⟩
  · cases l
  · obtain ⟨t1, ga⟩ := exo_at I1.hok ea
    obtain ⟨mA, ns, rel⟩ := exd_at I1.hok ed
    obtain ⟨od, go, hl⟩ := lookIn_ns ns
    obtain ⟨u, hu, ru⟩ := RelO.some_of (v := v) (o := mA n) (by rw [← l]; exact rel n)
    exact PySem.PX.exc_get I1.kIn (od := some od) ⟨ga, rfl, rfl, go⟩ T.ga T.gg T.ex (PySem.W.findObj_own T.hd no rfl (by rw [hl, hu])) (handed_of ru) ⟨v, H1, I1.tok _, ru, q⟩
/-- isinstance(e, c) -/
def rIsX (K : PySem.W.Frag) : List V → Hp → VK → Prop := fun xs H Q => ∃ (a C : Addr) (fs : List (Str × V)) (c : V) (cv : Value) (b : Bool), xs = [.ref a, c] ∧ XAt K H a C fs ∧ ClsV c cv ∧ PySem.W.kitOne K (.ref C) cv = some b ∧ Q (.bl b) H
theorem call_isX (cg : PySem.W.specialIn X.K (.builtin "object.__class__") "__get__" = some (some (.builtin "getset_descriptor.__get__"))) (ct : PySem.W.takesIn X.K (.builtin "object.__class__") = some true) :
    CallR X (.builtin "isinstance") (rIsX X.K) := by
  intro pins s σ H xs us Q I r h
  obtain ⟨a, C, fs, c, cv, b, rfl, ⟨T, at_⟩, hc, e, q⟩ := h
  obtain ⟨u1, u2, rfl, r1, r2⟩ := vals2 r
  cases r1
  have e2 := hc.eq r2
  subst e2
  have cls : (PySem.W.clsIn X.K C).isSome = true := by
    obtain ⟨cd, z, _⟩ := PySem.W.any_some T.hd
    rw [z]
    rfl
  have inst : ∃ ox od, PySem.W.InstAt s.heap a ox C od := by
    rcases at_ with ⟨_, ea⟩ | ⟨d, ea, ed⟩
    · obtain ⟨t1, ga⟩ := exo_at I.hok ea
      exact ⟨_, none, ga, rfl, rfl, trivial⟩
    · obtain ⟨t1, ga⟩ := exo_at I.hok ea
      obtain ⟨mA, ns, rel⟩ := exd_at I.hok ed
      obtain ⟨od, go, hl⟩ := lookIn_ns ns
      exact ⟨_, some od, ga, rfl, rfl, go⟩
  obtain ⟨ox, od, J⟩ := inst
  exact PySem.W.kia_one (PySem.W.kitx_exc cls T.ga T.gg T.ex T.ca cg ct T.ob) I.kIn J e (fun z => nomatch z) fun tk => ⟨.bl b, H, I.tok tk, rfl, q⟩
/-- C(e, ..) of a class without an __init__ of its own -/
def tXb (C : Addr) (t : TA) : TE := fun σ H Q => t σ H fun vs H1 => vs.length ≤ 1000 ∧ ∀ a, H1 a = none → Q (.ref a) (upd H1 a (exo a C none))
theorem pe_xb (T : XCl X.K C) (hi : ∃ B newId initId bmB, ExcBaseFacts B newId initId bmB ∧ PySem.W.excInitIn X.K C bmB newId = true ∧ PySem.W.findIn X.K (.ref C) "__init__" = some (some (.builtin initId)))
    (hg : Gl X x) (hm : X.mg x = some (.ref C)) (ha : PA X (e :: es) t) (hdb : (x == ("__debug__" : Str)) = false := by decide)
    (he : starEach (e :: es) X.env = (false, eval e X.env) :: starEach es X.env := by rfl) (hpl : (backTo pos (starEach es X.env)).any (·.1) = false := by rfl) :
    PE X (.Call (.Name x p) (e :: es) [] pos) (tXb C t) := by
  constructor
  intro pins s σ H Q I h
  obtain ⟨B, nI, iI, bmB, BF, ii, fi⟩ := hi
  refine wpAny_Call_Name_kw (ld_glob I hg hm ?_ hdb)
  refine PySem.W.callWith_K (h₀ := X.base) I.ok.mod.kin T.kp (thn (ha.run pos pins s σ H _ I h) ?_) he hpl
  rintro us s1 ⟨vs, H1, I1, r, len, q⟩
  refine ⟨I1.kIn, ?_⟩
  obtain ⟨nm, N', qn, bs, bm, hdct, sn, sub, ab, col, dd, k0, k1, k2, k3, k5, cl, hT⟩ := PySem.W.excInit_of I1.kIn ii
  have lk := PySem.W.looks_findIn (M := model X.prog X.w) I1.kIn fi
  obtain ⟨hp, g', dr, tk', os⟩ := s1
  show wpAny _ _ (call (.ref C) us) _ _ _
  refine PySem.W.call_B BF hT cl lk (by rw [← r.length, sizeLine_eq]; omega) fun h' keep new _ => ?_
  exact ⟨V.ref (hp.objs.size + 1), _, I1.laid (t' := tk') keep (Nat.le_succ _) (exo_ok new), rfl, q _ (I1.hok.fresh (Nat.le_succ _))⟩
end
end Xl

namespace Gy
open PySem PySem.Spec PyProof.Rows L2
/-- data, or a dict without entries, or one whose only key is the text k and whose value is an int -/
inductive Dz (K : PySem.W.Frag) (H : Hp) : V → PyData → Prop
  | dat {v : V} {d : PyData} (h : Dp K H v d) (n : d.hasDict = false) : Dz K H v d
  | d0 {a : Addr} (h : H a = some (.dK [])) : Dz K H (.ref a) (.dict [])
  | d1 {a : Addr} {k : Str} {i : Int} (h : H a = some (.dK [(Sum.inr k, .int i)])) : Dz K H (.ref a) (.dict [(.str k, .int i)])
theorem Dz.reads {X : Cx} {pins : List (Addr × Obj)} {σ : L2.St} {H : Hp} {s : Shared} (I : Inv X pins σ H s) {v : V} {d : PyData} {u : Value} (h : Dz X.K H v d) (r : RelV v u) :
    ∃ as, Reads s.heap u d as ∧ (d.hasDict = true → sysModules ∉ as) := by
  cases h with
  | dat h n =>
    obtain ⟨as, z⟩ := Dp.reads I d v u h r
    exact ⟨as, z, fun q => by rw [n] at q; cases q⟩
  | @d0 a h =>
    cases r
    obtain ⟨_, ns, vs, kv, o, es, ep, g1, ex, g2, ks, ps, _⟩ := (show ObjOk X.prog X.w H s.heap a (.dK []) from I.hok a _ h)
    cases kv
    have e : es.toList = [] := by
      generalize es.toList = l at ps
      cases ps
      rfl
    refine ⟨_, .dict g1 ex.1 g2 (as := []) (bs := []) (by rw [e]; exact .nil) (by rw [e]; exact .nil), fun _ q => ?_⟩
    rw [List.append_nil, List.mem_singleton] at q
    rw [← q] at ns
    cases ns
  | @d1 a k i h =>
    cases r
    obtain ⟨_, ns, vs, kv, o, es, ep, g1, ex, g2, ks, ps, _⟩ := (show ObjOk X.prog X.w H s.heap a (.dK [(Sum.inr k, .int i)]) from I.hok a _ h)
    obtain ⟨t1, t2, e1, e2⟩ : ∃ t1 t2, es.toList.map (·.key) = [.str k t1] ∧ es.toList.map (·.val) = [.int i t2] := by
      generalize es.toList = l at ps
      cases kv with
      | cons hk hr =>
        cases hr
        obtain ⟨h1, h2⟩ := hk
        cases ps with
        | cons p1 p2 p3 =>
          cases p3
          rw [← h1] at p1
          rcases keyIs_shape (show keyIs (Sum.inr k) _ = true from p1) with ⟨j, t, q, _⟩ | ⟨x, t, q, q2⟩
          · cases q
          · cases q
            obtain ⟨t2, h2⟩ := h2
            refine ⟨t, t2, ?_, ?_⟩
            · rw [List.map_singleton, q2]
            · rw [List.map_singleton, p2, h2]
    refine ⟨_, .dict g1 ex.1 g2 (as := [] ++ []) (bs := [] ++ []) (by rw [e1]; exact .cons (.str k t1) .nil) (by rw [e2]; exact .cons (.int i t2) .nil), fun _ q => ?_⟩
    have q' : sysModules ∈ [a] := q
    rw [List.mem_singleton] at q'
    rw [← q'] at ns
    cases ns
/-- each of them shown -/
theorem shows_all {X : Cx} {pins : List (Addr × Obj)} {σ : L2.St} {H : Hp} {s : Shared} (I : Inv X pins σ H s) : ∀ {vs : List V} {ds : List PyData} {us : List Value}, Paired (Dz X.K H) vs ds → Vals vs us →
    PyData.showableAll ds = true → (∀ t ∈ PyData.shownAll ds, t.length ≤ sizeLine) →
    ∃ as bs, ReadsAll s.heap us ds as ∧ ReadAtMost s.heap (PyData.depthAll ds) bs ∧ ReprAllK X.prog X.w bs s.heap (PyData.depthAll ds) us (PyData.shownAll ds)
  | _, _, _, .nil, .nil, _, _ => ⟨[], [], .nil, (fun _ h => nomatch h), .nil⟩
  | _, _, _, .cons (b := d) (l₂ := ds) h hs, .cons r rs, sh, len => by
    have sh2 : d.showable = true ∧ PyData.showableAll ds = true := by simpa only [PyData.showableAll, Bool.and_eq_true] using sh
    obtain ⟨as, rd, no⟩ := h.reads I r
    obtain ⟨b1, m1, k1⟩ := ReprK.of_reads (prog := X.prog) (w := X.w) rd sh2.1 no (len _ List.mem_cons_self)
    obtain ⟨as2, b2, rd2, m2, k2⟩ := shows_all I hs rs sh2.2 fun t ht => len t (List.mem_cons_of_mem _ ht)
    have l1 : d.depth ≤ PyData.depthAll (d :: ds) := Nat.le_max_left _ _
    have l2 : PyData.depthAll ds ≤ PyData.depthAll (d :: ds) := Nat.le_max_right _ _
    refine ⟨as ++ as2, b1 ++ b2, .cons rd rd2, (m1.mono l1).append (m2.mono l2), ?_⟩
    exact .cons ((k1.more fun b hb => List.mem_append_left _ hb).level_le l1) (k2.more_le (fun b hb => List.mem_append_right _ hb) l2)
/-- repr of a list of such values -/
def rRepr (K : PySem.W.Frag) : List V → Hp → VK → Prop := fun xs H Q => ∃ l vs ds, xs = [.ref l] ∧ SqL K H l vs ∧ vs ≠ [] ∧ Paired (Dz K H) vs ds ∧ PyData.showableAll ds = true ∧ PyData.depthAll ds ≤ 60 ∧
  (listText (PyData.shownAll ds)).length ≤ sizeLine ∧ Q (.str (listText (PyData.shownAll ds))) H
theorem repr_dz {X : Cx} (hg : X.A.guards = some []) (hu : X.A.units + 70 < cLine) : CallR X (.builtin "repr") (rRepr X.K) := by
  intro pins s σ H xs us Q I r h
  obtain ⟨l, vs, ds, rfl, sq, nn, dz, sh, dp, len, q⟩ := h
  obtain ⟨u, rfl, ru⟩ := vals1 r
  cases ru
  obtain ⟨its, rv, ⟨o, n, g1, g2, _, g3⟩, _⟩ := I.list sq
  obtain ⟨as, bs, rd, at_, sw⟩ := shows_all I dz rv sh fun t ht => Nat.le_trans (listText_mem_le ht) len
  have out : l ∉ bs := not_mem_of_deeper (.list g1 g2 g3 rd) (by simp only [PyData.depth]; omega) at_
  match its, nn, rv, g3, rd, sw with
  | [], nn, rv, _, _, _ =>
    cases rv
    exact absurd rfl nn
  | x :: rest, _, _, g3, _, sw =>
    refine call_repr_slot (T := "list") (idr := "list.__repr__") (by omega) ⟨o, g1, g2⟩ F.slot_list_repr.toG ?_
    refine call_list_reprK g1 g2 g3 out (by simpa using sw.length_eq) (fun i y e => sw.item i y (by simpa using e)) (g := []) hg (fun b _ => Clear.nil b) (d := PyData.depthAll ds) ?_ (fun _ _ e => e) (fun h' u tk hk => ?_) len
    · show X.A.units + 1 + (PyData.depthAll ds + 1) < cLine
      omega
    · exact ⟨_, _, rfl, .str _, H, I.kept hk, ⟨u, rfl⟩, q⟩
end Gy

namespace My
open PySem PySem.Spec PyProof.Rows L2 Gy Xl
def top (i : Nat) : Stmt := PySem.Challenge.pw_relinktree_k17_errors_made.main.body.getD i (.Pass ⟨0, 0, 0, 0⟩)
abbrev sRng : Stmt := top 25
abbrev sDraw : Stmt := top 26
abbrev sThing : Stmt := top 32
theorem same_upd {H : Hp} {p : Addr} {o : HO} (h : H p = none) : Same H (upd H p o) := fun b x e => by
  rw [upd_ne (ne_of_none e h)]
  exact e
/-- a new object that is written once more: what stood before stands -/
theorem same_upd2 {H0 H : Hp} {p : Addr} {o : HO} (s : Same H0 H) (h : H0 p = none) : Same H0 (upd H p o) := fun b x e => by
  rw [upd_ne (ne_of_none e h)]
  exact s b x e
section
variable {P : Program} {w : World} {K : PySem.W.Frag} {mg : Str → Option Value} {base : Heap}
/-! ### the law's numbers -/
/-- the list of two numbers that is drawn from -/
def Rng (H : Hp) (r : Addr) : Prop := ∃ x y : Int, H r = some (.lst [.int x, .int y]) ∧ 0 ≤ x ∧ 0 ≤ y ∧ y < 1099511627776
/-- all but r stands -/
def But (r : Addr) (H H' : Hp) : Prop := ∀ b o, b ≠ r → H b = some o → H' b = some o
theorem But.refl (r : Addr) (H : Hp) : But r H H := fun _ _ _ h => h
theorem But.trans {r : Addr} {H H1 H2 : Hp} (a : But r H H1) (b : But r H1 H2) : But r H H2 := fun c o n h => b c o n (a c o n h)
theorem But.of {r : Addr} {H H' : Hp} (s : Same H H') : But r H H' := fun c o _ h => s c o h
structure TxtR (mg : Str → Option Value) : Prop where
  len : mg "len" = none
  abs : mg "abs" = none
  max : mg "max" = none
  dm : mg "divmod" = none
def spRng (K : PySem.W.Frag) : Sp := fun vs H Q _ => ∃ (a : Addr) (ns : List Int) (k : Nat), vs = [.ref a, .int (k : Int)] ∧ SqL K H a (ns.map V.int) ∧ k ≤ 100 ∧
  ∀ H' p, Same H H' → H p = none → Rng H' p → Q (.ref p) H'
theorem scR : FnScope ["_law_script", "_law_k", "_law_cell"] ["_law_script", "_law_k"] (defScope sRng) := ⟨rfl, rfl, rfl, by decide +kernel, rfl, by decide +kernel, by decide +kernel⟩
theorem abs_nn (i : Int) : 0 ≤ (if i < 0 then -i else i) := by
  split <;> omega
theorem max_nn (j : Int) : 0 ≤ (if j > 0 then j else 0) := by
  split <;> omega
theorem y_lo (c : Int) (k : Nat) : 0 ≤ c % 2147483587 + 211 * (k : Int) + 5 := by omega
theorem y_hi (c : Int) (k : Nat) (h : k ≤ 100) : c % 2147483587 + 211 * (k : Int) + 5 < 1099511627776 := by omega
theorem ok_rng {f : Addr} {fd : FuncData} (F : Fun K "_law_rng" "_law_rng" sRng f fd) (T : TxtR mg) : FnOk P w K mg base CX0 1 f fd ["_law_script", "_law_k"] (spRng K) := by
  refine F.ok scR (fun vs H Q E h => ?_) (fun cdv A outer s H vs Q E hr h => ?_)
  · obtain ⟨a, ns, k, rfl, _⟩ := h
    rfl
  · obtain ⟨a, ns, k, rfl, hS, hk, q⟩ := h
    refine ⟨_, pss_cons (ps_set (i := 2) scR.nd rfl (.inl rfl) (pe_ifExp (pt_cmpR op_lt (pv 1) (pe_callB call_len_seq (by rfl) T.len PySem.boot_len (pa_cons (pv 0) pa_nil)) (nomark _))
        (pe_ix ix_list (pv 0) (pv 1) (fun _ _ => rfl)) (pe_op op_add (pe_op op_mul pe_int (pv 1)) pe_int)))
      (pss_one (ps_ret (pe_lst (pa_cons (pe_callB (call_max2 rfl) (by rfl) T.max (by decide +kernel) (pa_cons pe_int (pa_cons (pe_op op_sub (pe_callB call_abs (by rfl) T.abs (by decide +kernel) (pa_cons (pv 2) pa_nil)) (pe_op op_pow pe_int pe_int)) pa_nil)))
        (pa_cons (pe_op op_add (pe_op op_add (pe_op op_mod (pe_callB call_abs (by rfl) T.abs (by decide +kernel) (pa_cons (pv 2) pa_nil)) pe_int) (pe_op op_mul pe_int (pv 1))) pe_int) pa_nil))))), ?_⟩
    refine ⟨_, rfl, _, rfl, a, _, rfl, .inl hS, _, _, rfl, rfl, _, rfl, ite2 (fun c1 => ?A) (fun c1 => ?B)⟩
    case' A =>
      have hk2 : k < ns.length := by
        have := of_decide_eq_true c1
        rw [List.length_map] at this
        omega
      refine ⟨_, rfl, _, rfl, a, _, _, .int ns[k], rfl, rfl, hS, atI_nat (j := k) (by rw [List.getElem?_map, List.getElem?_eq_getElem hk2]; rfl), ?_⟩
    case' B =>
      refine ⟨_, rfl, 7, _, rfl, rfl, .inl ⟨by decide, by decide⟩, _, _, rfl, rfl, ?_⟩
    all_goals
      refine ⟨_, rfl, _, rfl, 10, 18, rfl, rfl, ⟨by decide, by decide, by decide⟩, _, _, rfl, rfl, 0, _, rfl, ?_⟩
      refine ⟨_, rfl, _, rfl, _, _, rfl, rfl, (by decide : (0 : Int) < 2147483587), _, rfl, 211, _, rfl, rfl, .inl ⟨by decide, by decide⟩, _, _, rfl, rfl, _, _, rfl, rfl, ?_⟩
      refine ⟨(by show 2 ≤ sizeLine; decide), fun p hp => ?_⟩
      exact q _ p (same_upd hp) hp ⟨_, _, upd_same, max_nn _, y_lo _ k, y_hi _ k hk⟩

def spDraw : Sp := fun vs H Q _ => ∃ (r : Addr) (m : Int), vs = [.ref r, .int m] ∧ Rng H r ∧ 0 < m ∧ m < 1180591620717411303424 ∧
  ∀ H' d, But r H H' → Rng H' r → 0 ≤ d → d < m → Q (.int d) H'
theorem lg70 {m : Int} (m0 : 0 < m) (m1 : m < 1180591620717411303424) : m.natAbs.log2 < 9000 := by
  have h : m.natAbs < 2 ^ 70 := by
    show m.natAbs < 1180591620717411303424
    omega
  exact Nat.lt_of_lt_of_le ((Nat.log2_lt (by omega)).mpr h) (by decide)
theorem scD : FnScope ["_law_rng_here", "_law_many", "_law_digit"] ["_law_rng_here", "_law_many"] (defScope sDraw) := ⟨rfl, rfl, rfl, by decide +kernel, rfl, by decide +kernel, by decide +kernel⟩
theorem ok_draw {f : Addr} {fd : FuncData} (F : Fun K "_law_draw" "_law_draw" sDraw f fd) (T : TxtR mg) : FnOk P w K mg base CX0 1 f fd ["_law_rng_here", "_law_many"] spDraw := by
  refine F.ok scD (fun vs H Q E h => ?_) (fun cdv A outer s H vs Q E hr h => ?_)
  · obtain ⟨r, m, rfl, _⟩ := h
    rfl
  · obtain ⟨r, m, rfl, ⟨x, y, hR, x0, y0, y1⟩, m0, m1, q⟩ := h
    refine ⟨_, pss_cons (ps_if (pt_cmpR op_gt (pe_ix ix_list (pv 0) pe_int (fun _ _ => rfl)) pe_int (nomark _))
        (pss_cons (ps_asg (pe_callB call_divmodW (by rfl) T.dm (by decide +kernel) (pa_cons (pe_ix ix_list (pv 0) pe_int (fun _ _ => rfl)) (pa_cons (pv 1) pa_nil)))
            (pg_tup (by rfl) (pgs_cons (pg_sub (pv 0) pe_int set_list) (pgs_cons (pg_name (i := 2) scD.nd rfl (.inl rfl)) pgs_nil))))
          (pss_one (ps_ret (pv 2)))) pss_nil)
      (pss_cons (ps_asg (pe_op op_mod (pe_op op_add (pe_op op_mul (pe_ix ix_list (pv 0) pe_int (fun _ _ => rfl)) pe_int) pe_int) pe_int) (pg_sub (pv 0) pe_int set_list))
      (pss_one (ps_ret (pe_op op_mod (pe_op op_fdiv (pe_op op_mod (pe_op op_mul (pe_ix ix_list (pv 0) pe_int (fun _ _ => rfl)) (pe_ix ix_list (pv 0) pe_int (fun _ _ => rfl))) pe_int) pe_int) (pv 1))))), ?_⟩
    refine ⟨_, rfl, r, _, 0, .int x, rfl, rfl, SqL.of hR, atI_nat (j := 0) rfl, _, _, rfl, rfl, _, rfl, ite2 (fun c1 => ?_) (fun c1 => ?_)⟩
    · refine ⟨_, rfl, r, _, 0, .int x, rfl, rfl, SqL.of hR, atI_nat (j := 0) rfl, _, rfl, x, m, rfl, ⟨m0, PyProof.noPylong_of_log2 (lg70 m0 m1)⟩, fun p hp => ?_⟩
      have npr : r ≠ p := ne_of_none hR hp
      refine ⟨p, _, rfl, SqT.of upd_same, rfl, _, _, rfl, ?_⟩
      refine ⟨_, rfl, r, _, 0, 0, rfl, rfl, (by rw [upd_ne npr]; exact hR), rfl, ?_⟩
      refine ⟨_, _, rfl, rfl, ?_⟩
      refine ⟨_, rfl, q _ _ ?_ ⟨x / m, y, upd_same, Int.ediv_nonneg x0 (Int.le_of_lt m0), y0, y1⟩ (Int.emod_nonneg _ (by omega)) (Int.emod_lt_of_pos _ m0)⟩
      intro b o nb e
      rw [upd_ne nb, upd_ne (ne_of_none e hp)]
      exact e
    · refine ⟨_, rfl, r, _, 1, .int y, rfl, rfl, SqL.of hR, atI_nat (j := 1) rfl, y, 40692, rfl, rfl, .inl ⟨by omega, by omega⟩, _, _, rfl, rfl, _, _, rfl, rfl, (by decide : (0 : Int) < 2147483399), ?_⟩
      refine ⟨_, rfl, r, _, 1, 1, rfl, rfl, hR, rfl, ?_⟩
      have z0 := Int.emod_nonneg (y * 40692 + 12211) (by decide : (2147483399 : Int) ≠ 0)
      have z1 := Int.emod_lt_of_pos (y * 40692 + 12211) (by decide : (0 : Int) < 2147483399)
      refine ⟨_, rfl, r, _, 1, _, rfl, rfl, SqL.of upd_same, atI_nat (j := 1) rfl, _, rfl, r, _, 1, _, rfl, rfl, SqL.of upd_same, atI_nat (j := 1) rfl, _, _, rfl, rfl, .inl ⟨by omega, by omega⟩, ?_⟩
      refine ⟨_, _, rfl, rfl, (by decide : (0 : Int) < 2147483323), _, 17, rfl, rfl, ⟨by decide, by decide⟩, _, rfl, _, m, rfl, rfl, m0, ?_⟩
      refine q _ _ ?_ ⟨x, _, upd_same, x0, z0, by omega⟩ (Int.emod_nonneg _ (by omega)) (Int.emod_lt_of_pos _ m0)
      intro b o nb e
      rw [upd_ne nb]
      exact e
/-- an item of a list of texts, by a number below its length -/
theorem at_in {α : Type} {xs : List α} {d : Int} (h0 : 0 ≤ d) (h1 : d < (xs.length : Int)) : ∃ v, atI xs d = some v ∧ v ∈ xs := by
  obtain ⟨j, rfl⟩ := Int.eq_ofNat_of_zero_le h0
  have hj : j < xs.length := by omega
  exact ⟨xs[j], atI_nat (List.getElem?_eq_getElem hj), List.getElem_mem hj⟩
theorem Rng.ne {H : Hp} {r l : Addr} (h : Rng H r) (hl : H l = none) : l ≠ r := fun z => by
  obtain ⟨x, y, e, _⟩ := h
  rw [← z, hl] at e
  cases e
theorem Rng.upd {H : Hp} {r l : Addr} {o : HO} (h : Rng H r) (hl : H l = none) : Rng (upd H l o) r := by
  obtain ⟨x, y, e, h2⟩ := id h
  exact ⟨x, y, by rw [upd_ne (h.ne hl).symm]; exact e, h2⟩
theorem small200 {n : Nat} (h : n ≤ 200) : n < sizeLine := Nat.lt_of_le_of_lt h (by decide)
theorem Rng.same {H H' : Hp} {r : Addr} (h : Rng H r) (s : Same H H') : Rng H' r := by
  obtain ⟨x, y, e, h2⟩ := h
  exact ⟨x, y, s _ _ e, h2⟩
/-- what was made and kept until a draw stands behind the draw -/
theorem Rng.go {H H0 H1 H2 : Hp} {r b : Addr} {o : HO} (h : Rng H r) (b1 : But r H1 H2) (s : Same H H0) (hb : H0 b = none) (s2 : Same (L2.upd H0 b o) H1) : H2 b = some o :=
  b1 b o ((h.same s).ne hb) (s2 _ _ upd_same)
end
end My

namespace My
open PySem PySem.Spec PyProof.Rows L2 Gy Xl
mutual
theorem dp_same {K : PySem.W.Frag} {H H' : Hp} (s : Same H H') : ∀ {v : V} {d : PyData}, Dp K H v d → Dp K H' v d
  | _, _, .non => .non
  | _, _, .bl b => .bl b
  | _, _, .int i => .int i
  | _, _, .str x => .str x
  | _, _, .lst h a => .lst (s.seq h) (dps_same s a)
  | _, _, .tup h a => .tup (by
      rcases h with (h | ⟨o, h⟩) | h
      · exact .inl (.inl (s _ _ h))
      · exact .inl (.inr ⟨o, s _ _ h⟩)
      · exact .inr h) (dps_same s a)
theorem dps_same {K : PySem.W.Frag} {H H' : Hp} (s : Same H H') : ∀ {vs : List V} {ds : List PyData}, DpAll K H vs ds → DpAll K H' vs ds
  | _, _, .nil => .nil
  | _, _, .cons h t => .cons (dp_same s h) (dps_same s t)
end
theorem dz_same {K : PySem.W.Frag} {H H' : Hp} (s : Same H H') {v : V} {d : PyData} (h : Dz K H v d) : Dz K H' v d := by
  cases h with
  | dat h n => exact .dat (dp_same s h) n
  | d0 h => exact .d0 (s _ _ h)
  | d1 h => exact .d1 (s _ _ h)
/-- a value that can be shown -/
def Pk (K : PySem.W.Frag) (H : Hp) (v : V) : Prop := ∃ d, Dz K H v d ∧ d.showable = true ∧ d.depth ≤ 3 ∧ d.shown.length ≤ 1000
theorem Pk.same {K : PySem.W.Frag} {H H' : Hp} {v : V} (h : Pk K H v) (s : Same H H') : Pk K H' v := by
  obtain ⟨d, h1, h2⟩ := h
  exact ⟨d, dz_same s h1, h2⟩
/-- the heap without r -/
def rem (H : Hp) (r : Addr) : Hp := fun b => if b = r then none else H b
theorem rem_but {r : Addr} {H H' : Hp} (b : But r H H') : Same (rem H r) (rem H' r) := fun c o e => by
  unfold rem at e ⊢
  by_cases h : c = r
  · rw [if_pos h] at e
    cases e
  · rw [if_neg h] at e ⊢
    exact b c o h e
theorem rem_same {r : Addr} {H : Hp} : Same (rem H r) H := fun c o e => by
  unfold rem at e
  by_cases h : c = r
  · rw [if_pos h] at e
    cases e
  · rw [if_neg h] at e
    exact e
theorem int_len {i : Int} (h : i.natAbs < 10 ^ 21) : (PyData.shown (.int i)).length ≤ 22 := by
  have e := int_text_length_le10 (k := 21) (by decide) h
  show (Str.ofString (toString i)).length ≤ 22
  rw [PySem.ofString_length]
  exact e
theorem int_sh {i : Int} (h : i.natAbs < 10 ^ 21) : PyData.showable (.int i) = true := by
  refine decide_eq_true ?_
  by_cases z : i.natAbs = 0
  · rw [z]
    decide
  · refine (Nat.log2_lt z).mpr (Nat.lt_trans h ?_)
    exact Nat.lt_of_lt_of_le (show 10 ^ 21 < 2 ^ 70 by decide) (Nat.pow_le_pow_right (by decide) (by decide))
section
variable {P : Program} {w : World} {K : PySem.W.Frag} {mg : Str → Option Value} {base : Heap}
theorem pk_int {H : Hp} {i : Int} (h : i.natAbs < 10 ^ 21) : Pk K H (.int i) := ⟨.int i, .dat (.int i) rfl, int_sh h, (by show 0 ≤ 3; decide), Nat.le_trans (int_len h) (by decide)⟩
theorem pk_str {H : Hp} {x : Str} (h : (reprText x).length ≤ 1000) : Pk K H (.str x) := ⟨.str x, .dat (.str x) rfl, rfl, by show 0 ≤ 3; decide, h⟩
theorem pk_li {H : Hp} {a : Addr} {i : Int} (e : H a = some (.lst [.int i])) (h : i.natAbs < 10 ^ 21) : Pk K H (.ref a) := by
  refine ⟨.list [.int i], .dat (.lst (SqL.of e) (.cons (.int i) .nil)) rfl, ?_, by show 1 ≤ 3; decide, ?_⟩
  · show (PyData.showable (.int i) && true) = true
    rw [int_sh h]
    rfl
  · have := listText_len_le [PyData.shown (.int i)]
    have := int_len h
    show (listText [PyData.shown (.int i)]).length ≤ 1000
    simp only [List.map_cons, List.map_nil, List.sum_cons, List.sum_nil, List.length_cons, List.length_nil] at *
    omega
theorem pk_d1 {H : Hp} {a : Addr} {i : Int} (e : H a = some (.dK [(Sum.inr "a", .int i)])) (h : i.natAbs < 10 ^ 21) : Pk K H (.ref a) := by
  refine ⟨.dict [(.str "a", .int i)], .d1 e, ?_, by show 1 ≤ 3; decide, ?_⟩
  · show (true && PyData.showable (.int i) && true) = true
    rw [int_sh h]
    rfl
  · have h1 := dictText_len_le [PyData.shown (.str "a") ++ ": " ++ PyData.shown (.int i)]
    have h2 := int_len h
    have h3 : (PyData.shown (.str "a") ++ ": ").length ≤ 10 := by decide +kernel
    show (dictText [PyData.shown (.str "a") ++ ": " ++ PyData.shown (.int i)]).length ≤ 1000
    simp only [List.map_cons, List.map_nil, List.sum_cons, List.sum_nil, List.length_cons, List.length_nil] at h1
    rw [strLen_append] at h1
    omega
theorem Rng.gone {H H0 H1 H2 : Hp} {r b : Addr} {o : HO} (h : Rng H r) (b1 : But r H1 H2) (s : Same H H0) (hb : H0 b = none) (e : H1 b = some o) : (rem H2 r) b = some o := by
  have nb := (h.same s).ne hb
  unfold rem
  rw [if_neg nb]
  exact b1 b o nb e
/-! ### a drawn value -/
structure TxtT (mg : Str → Option Value) (fD : Addr) : Prop where
  gD : mg "_law_draw" = some (.ref fD)
def spThing (K : PySem.W.Frag) : Sp := fun vs H Q _ => ∃ r : Addr, vs = [.ref r] ∧ Rng H r ∧ ∀ H' v, But r H H' → Rng H' r → Pk K (rem H' r) v → Q v H'
theorem scT : FnScope ["_law_rng_here", "_law_far", "_law_some"] ["_law_rng_here"] (defScope sThing) := ⟨rfl, rfl, rfl, by decide +kernel, rfl, by decide +kernel, by decide +kernel⟩
def thA (i : Int) (l1 t1 d1 l2 t2 d2 : Addr) : List V := [.non, .bl true, .int 0, .int i, .int (-i), .str "", .str "a", .str "Ab c", .ref l1, .ref t1, .ref d1, .ref l2, .ref t2, .ref d2]
theorem pk_th {H : Hp} {i : Int} {l1 t1 d1 l2 t2 d2 t3 t4 : Addr} (hi : i.natAbs < 10 ^ 21) (e1 : H l1 = some (.lst [])) (e2 : H t1 = some (.tup [])) (e3 : H d1 = some (.dK [])) (e4 : H l2 = some (.lst [.int i])) (e5 : H t2 = some (.tup [.str "a", .str "b"]))
    (e6 : H d2 = some (.dK [(Sum.inr "a", .int i)])) (e7 : H t3 = some (.tup [.str "a", .str "b", .str "c"])) (e8 : H t4 = some (.tup [.ref t3, .int 1])) {v : V} (h : v ∈ thA i l1 t1 d1 l2 t2 d2 ++ [.ref t4]) : Pk K H v := by
  unfold thA at h
  simp only [List.cons_append, List.nil_append, List.mem_cons, List.not_mem_nil, or_false] at h
  rcases h with rfl | rfl | rfl | rfl | rfl | rfl | rfl | rfl | rfl | rfl | rfl | rfl | rfl | rfl | rfl
  · exact ⟨.none, .dat .non rfl, rfl, by decide, by decide +kernel⟩
  · exact ⟨.bool true, .dat (.bl true) rfl, rfl, by decide, by decide +kernel⟩
  · exact pk_int (by decide)
  · exact pk_int hi
  · exact pk_int (by omega)
  · exact pk_str (by decide +kernel)
  · exact pk_str (by decide +kernel)
  · exact pk_str (by decide +kernel)
  · exact ⟨.list [], .dat (.lst (SqL.of e1) .nil) rfl, rfl, by decide, by decide +kernel⟩
  · exact ⟨.tuple [], .dat (.tup (SqT.of e2) .nil) rfl, rfl, by decide, by decide +kernel⟩
  · exact ⟨.dict [], .d0 e3, rfl, by decide, by decide +kernel⟩
  · exact pk_li e4 hi
  · exact ⟨.tuple [.str "a", .str "b"], .dat (.tup (SqT.of e5) (.cons (.str _) (.cons (.str _) .nil))) rfl, rfl, by decide, by decide +kernel⟩
  · exact pk_d1 e6 hi
  · exact ⟨.tuple [.tuple [.str "a", .str "b", .str "c"], .int 1], .dat (.tup (SqT.of e8) (.cons (.tup (SqT.of e7) (.cons (.str _) (.cons (.str _) (.cons (.str _) .nil)))) (.cons (.int 1) .nil))) rfl, rfl, by decide, by decide +kernel⟩
theorem ok_thing {f fD : Addr} {fd fdD : FuncData} (F : Fun K "_law_thing" "_law_thing" sThing f fd) (T : TxtT mg fD) (R : TxtR mg)
    (FD : Fun K "_law_draw" "_law_draw" sDraw fD fdD) (bD : Binds K fdD ["_law_rng_here", "_law_many"] []) : FnOk P w K mg base CX0 2 f fd ["_law_rng_here"] (spThing K) := by
  have GD : FnOk P w K mg base CX0 1 fD fdD ["_law_rng_here", "_law_many"] spDraw := ok_draw FD R
  refine F.ok scT (fun vs H Q E h => ?_) (fun cdv A outer s H vs Q E hr h => ?_)
  · obtain ⟨r, rfl, _⟩ := h
    rfl
  · obtain ⟨r, rfl, hR, q⟩ := h
    refine ⟨_, pss_cons (ps_set (i := 1) scT.nd rfl (.inl rfl) (pe_call GD hr (by rfl) T.gD FD.kp bD .nil pass0 (pa_cons (pv 0) (pa_cons (pe_op op_pow pe_int pe_int) pa_nil))))
      (pss_cons (ps_set (i := 2) scT.nd rfl (.inl rfl) (pe_lst (pa_cons pe_non (pa_cons pe_bl (pa_cons pe_int (pa_cons (pv 1) (pa_cons (pe_un un_neg (pv 1)) (pa_cons pe_str (pa_cons pe_str (pa_cons pe_str
          (pa_cons (pe_lst pa_nil) (pa_cons (pe_tup pa_nil) (pa_cons pe_dnewK (pa_cons (pe_lst (pa_cons (pv 1) pa_nil)) (pa_cons (pe_tup (pa_cons pe_str (pa_cons pe_str pa_nil)))
          (pa_cons (pe_disp (pps_cons pe_str (pv 1) pps_nil) (by rfl) (by rfl) (fun z => by cases z) (by decide)) pa_nil))))))))))))))))
      (pss_one (ps_ret (pe_ix ix_list (pe_op op_cat (pv 2) (pe_lst (pa_cons (pe_tup (pa_cons (pe_tup (pa_cons pe_str (pa_cons pe_str (pa_cons pe_str pa_nil)))) (pa_cons pe_int pa_nil))) pa_nil)))
        (pe_call GD hr (by rfl) T.gD FD.kp bD .nil pass0 (pa_cons (pv 0) (pa_cons pe_int pa_nil))) (fun _ _ => rfl))))), ?_⟩
    refine ⟨_, rfl, 10, 20, rfl, rfl, ⟨by decide, by decide, by decide⟩, r, _, rfl, hR, by decide, by decide, fun H1 i b1 R1 i0 i1 => ?_⟩
    have hi : i.natAbs < 10 ^ 21 := by
      have i1' : i < 100000000000000000000 := i1
      show i.natAbs < 1000000000000000000000
      omega
    refine ⟨_, rfl, _, rfl, i, rfl, Nat.zero_le _, fun l1 n1 => ⟨Nat.zero_le _, fun t1 n2 d1 n3 => ⟨_, rfl, (by show 1 ≤ sizeLine; decide), fun l2 n4 => ⟨(by show 2 ≤ sizeLine; decide), fun t2 n5 => ?_⟩⟩⟩⟩
    intro d2 n6
    refine ⟨_, rfl, upd_same, [(Sum.inr "a", .int i)], rfl, (by show 1 ≤ 15; decide), ?_⟩
    refine ⟨(by show 14 ≤ sizeLine; decide), fun L n7 => ?_⟩
    have s1 := same_upd (o := .lst []) n1
    have s2 := same_upd (o := .tup []) n2
    have s3 := same_upd (o := .dK []) n3
    have s4 := same_upd (o := .lst [.int i]) n4
    have s5 := same_upd (o := .tup [.str "a", .str "b"]) n5
    have s6 := same_upd2 (o := .dK (mergeK [] [(Sum.inr "a", .int i)])) (same_upd (o := .dK []) n6) n6
    have s7 := same_upd (o := .lst (thA i l1 t1 d1 l2 t2 d2)) n7
    refine ⟨_, rfl, (by show 3 ≤ sizeLine; decide), fun t3 n8 => ⟨(by show 2 ≤ sizeLine; decide), fun t4 n9 => ⟨(by show 1 ≤ sizeLine; decide), fun M n10 => ?_⟩⟩⟩
    have s8 := same_upd (o := .tup [.str "a", .str "b", .str "c"]) n8
    have s9 := same_upd (o := .tup [.ref t3, .int 1]) n9
    have s10 := same_upd (o := .lst [.ref t4]) n10
    refine ⟨L, M, thA i l1 t1 d1 l2 t2 d2, [.ref t4], rfl, rfl, s10 _ _ (s9 _ _ (s8 _ _ upd_same)), upd_same, (by show 14 + 1 ≤ sizeLine; decide), fun N n11 => ?_⟩
    have s11 := same_upd (o := .lst (thA i l1 t1 d1 l2 t2 d2 ++ [.ref t4])) n11
    have c10 := s11
    have c9 := s10.trans c10
    have c8 := s9.trans c9
    have c7 := s8.trans c8
    have c6 := s7.trans c7
    have c5 := s6.trans c6
    have c4 := s5.trans c5
    have c3 := s4.trans c4
    have c2 := s3.trans c3
    have c1 := s2.trans c2
    have c0 := s1.trans c1
    refine ⟨_, rfl, r, 15, rfl, R1.same c0, by decide, by decide, fun H' d b2 R2 d0 d1' => ?_⟩
    have p1 := s1
    have p2 := p1.trans s2
    have p3 := p2.trans s3
    have p4 := p3.trans s4
    have p5 := p4.trans s5
    have p6 := p5.trans s6
    have p7 := p6.trans s7
    have p8 := p7.trans s8
    have p9 := p8.trans s9
    have p10 := p9.trans s10
    -- what was made stands behind the draw, and is not r
    have g1 := R1.gone b2 (Same.refl _) n1 (c1 _ _ upd_same)
    have g2 := R1.gone b2 p1 n2 (c2 _ _ upd_same)
    have g3 := R1.gone b2 p2 n3 (c3 _ _ upd_same)
    have g4 := R1.gone b2 p3 n4 (c4 _ _ upd_same)
    have g5 := R1.gone b2 p4 n5 (c5 _ _ upd_same)
    have g6 := R1.gone b2 p5 n6 (c6 _ _ upd_same)
    have g8 := R1.gone b2 p7 n8 (c8 _ _ upd_same)
    have g9 := R1.gone b2 p8 n9 (c9 _ _ upd_same)
    have g11 := R1.gone b2 p10 n11 upd_same
    obtain ⟨v, hv, mv⟩ := at_in (xs := thA i l1 t1 d1 l2 t2 d2 ++ [V.ref t4]) d0 (by show d < 15; exact d1')
    refine ⟨N, _, d, v, rfl, rfl, SqL.of (rem_same _ _ g11), hv, ?_⟩
    exact q _ _ (b1.trans ((But.of c0).trans b2)) R2 (pk_th hi g1 g2 g3 g4 g5 g6 g8 g9 mv)
end
end My

namespace My
open PySem PySem.Spec PyProof.Rows L2 Gy Xl

abbrev sFlags : Stmt := top 27
abbrev sAre : Stmt := top 28
/-! ### the classes -/
def tailOf : Nat → List Value
  | 0 => [.type "ValueError", .type "Exception", .type "BaseException", .type "object"]
  | 1 => [.type "LookupError", .type "Exception", .type "BaseException", .type "object"]
  | 2 => [.type "RuntimeError", .type "Exception", .type "BaseException", .type "object"]
  | _ => [.type "ArithmeticError", .type "Exception", .type "BaseException", .type "object"]
def mroOf (R C : Addr) (b : Nat) : List Value := if b = 0 then .ref C :: .ref R :: tailOf 0 else .ref C :: tailOf b
def kindOf (i : Nat) : Nat := if i ≤ 12 then 0 else if i ≤ 14 then 1 else if i ≤ 20 then 2 else 3
structure ClsOk (K : PySem.W.Frag) (C : Addr) (mro : List Value) : Prop where
  x : XCl K C
  mr : ∃ cd, PySem.W.clsIn K C = some cd ∧ cd.mro = mro
  ty : PySem.W.typeIn K (.ref C) = some (.type "type")
structure Tab (K : PySem.W.Frag) (R : Addr) (Cs : List Addr) : Prop where
  all : ∀ (i : Nat) (C : Addr), Cs[i]? = some C → ClsOk K C (mroOf R C (kindOf i))
  r : ClsOk K R (.ref R :: tailOf 0)
  nd : (R :: Cs).Nodup
  len : Cs.length = 22
theorem mro_in {K : PySem.W.Frag} {C : Addr} {mro : List Value} (h : ClsOk K C mro) (ne : mro ≠ []) (c : Value) : PySem.W.subIn K (.ref C) c = some (mro.contains c) := by
  obtain ⟨cd, h1, h2⟩ := h.mr
  show PySem.W.mroIn K C c = _
  unfold PySem.W.mroIn
  rw [h1, Option.bind_some, h2, if_neg]
  cases mro with
  | nil => exact absurd rfl ne
  | cons a r => exact Bool.false_ne_true
theorem kit_own {K : PySem.W.Frag} {C D : Addr} {mro mro' : List Value} (h : ClsOk K C mro) (hC : mro.contains (.ref C) = true) (hD : ClsOk K D mro') : PySem.W.kitOne K (.ref C) (.ref D) = some (mro.contains (.ref D)) := by
  unfold PySem.W.kitOne
  by_cases e : (Value.ref C == Value.ref D) = true
  · rw [if_pos e]
    have e' : C = D := Value.ref.inj (beq_iff_eq.mp e)
    rw [← e', hC]
  · rw [if_neg e]
    obtain ⟨cd, h1, _⟩ := hD.mr
    show (if ((PySem.W.clsIn K D).isSome && PySem.W.typeIn K (.ref D) == some (.type "type")) = true then PySem.W.subIn K (.ref C) (.ref D) else none) = _
    rw [h1, hD.ty, if_pos (by rfl)]
    exact mro_in h (fun z => by rw [z] at hC; cases hC) _
theorem kit_bt {K : PySem.W.Frag} {C : Addr} {mro : List Value} (h : ClsOk K C mro) (ne : mro ≠ []) {T : String} (hm : PySem.W.kitMeta T = true) : PySem.W.kitOne K (.ref C) (.type T) = some (mro.contains (.type T)) := by
  unfold PySem.W.kitOne
  rw [if_neg (by intro z; cases z)]
  show (if PySem.W.kitMeta T = true then PySem.W.subIn K (.ref C) (.type T) else none) = _
  rw [if_pos hm]
  exact mro_in h ne _
/-- one of the classes, with the mro that it has: the base class itself, or a class of the table -/
theorem xat_same {K : PySem.W.Frag} {H H' : Hp} {a C : Addr} {fs : List (Str × V)} (s : Same H H') (h : XAt K H a C fs) : XAt K H' a C fs := by
  obtain ⟨T, h⟩ := h
  refine ⟨T, ?_⟩
  rcases h with ⟨e, h⟩ | ⟨d, h1, h2⟩
  · exact .inl ⟨e, s _ _ h⟩
  · exact .inr ⟨d, s _ _ h1, s _ _ h2⟩
structure TxtF (K : PySem.W.Frag) (mg : Str → Option Value) (R c0 c1 c2 c3 c4 c5 c6 c7 c8 c9 c10 c11 c12 c13 c14 c15 c16 c17 c18 c19 c20 c21 : Addr) : Prop where
  isi : mg "isinstance" = none
  cg : PySem.W.specialIn K (.builtin "object.__class__") "__get__" = some (some (.builtin "getset_descriptor.__get__"))
  ct : PySem.W.takesIn K (.builtin "object.__class__") = some true
  gR : mg "RelinkTreeError" = some (.ref R)

  g0 : mg "InvalidName" = some (.ref c0)
  g1 : mg "InvalidWord" = some (.ref c1)
  g2 : mg "InvalidTree" = some (.ref c2)
  g3 : mg "InvalidRelink" = some (.ref c3)
  g4 : mg "InvalidItem" = some (.ref c4)
  g5 : mg "InvalidStep" = some (.ref c5)
  g6 : mg "InvalidEvent" = some (.ref c6)
  g7 : mg "InvalidChoice" = some (.ref c7)
  g8 : mg "InvalidScript" = some (.ref c8)
  g9 : mg "InvalidPlan" = some (.ref c9)
  g10 : mg "InvalidText" = some (.ref c10)
  g11 : mg "InvalidLine" = some (.ref c11)
  g12 : mg "InvalidCommand" = some (.ref c12)
  g13 : mg "UnknownHost" = some (.ref c13)
  g14 : mg "EmptyChannel" = some (.ref c14)
  g15 : mg "Busy" = some (.ref c15)
  g16 : mg "NotLinked" = some (.ref c16)
  g17 : mg "NotALeaf" = some (.ref c17)
  g18 : mg "NameTaken" = some (.ref c18)
  g19 : mg "NotAtRest" = some (.ref c19)
  g20 : mg "NoNetwork" = some (.ref c20)
  g21 : mg "TooMany" = some (.ref c21)
section
variable {P : Program} {w : World} {K : PySem.W.Frag} {mg : Str → Option Value} {base : Heap}
def spFlags (K : PySem.W.Frag) (Cs : List Addr) : Sp := fun vs H Q _ => ∃ (a C : Addr) (fs : List (Str × V)) (mro : List Value), vs = [.ref a] ∧ XAt K H a C fs ∧ ClsOk K C mro ∧ mro.contains (.ref C) = true ∧
  ∀ H' p, Same H H' → H p = none → H' p = some (.lst ((Cs.map fun D => mro.contains (.ref D)).map V.bl)) → Q (.ref p) H'
theorem scF : FnScope ["_law_e", "_law_flags_here"] ["_law_e"] (defScope sFlags) := ⟨rfl, rfl, rfl, by decide +kernel, rfl, by decide +kernel, by decide +kernel⟩
theorem ok_flags {f R c0 c1 c2 c3 c4 c5 c6 c7 c8 c9 c10 c11 c12 c13 c14 c15 c16 c17 c18 c19 c20 c21 : Addr} {fd : FuncData} (F : Fun K "_law_flags" "_law_flags" sFlags f fd) (T : TxtF K mg R c0 c1 c2 c3 c4 c5 c6 c7 c8 c9 c10 c11 c12 c13 c14 c15 c16 c17 c18 c19 c20 c21) (B : Tab K R [c0, c1, c2, c3, c4, c5, c6, c7, c8, c9, c10, c11, c12, c13, c14, c15, c16, c17, c18, c19, c20, c21]) : FnOk P w K mg base CX0 1 f fd ["_law_e"] (spFlags K [c0, c1, c2, c3, c4, c5, c6, c7, c8, c9, c10, c11, c12, c13, c14, c15, c16, c17, c18, c19, c20, c21]) := by
  refine F.ok scF (fun vs H Q E h => ?_) (fun cdv A outer s H vs Q E hr h => ?_)
  · obtain ⟨a, C, fs, mro, rfl, _⟩ := h
    rfl
  · obtain ⟨a, C, fs, mro, rfl, xa, co, mc, q⟩ := h
    refine ⟨_, pss_cons (ps_set (i := 1) scF.nd rfl (.inl rfl) (pe_lst (pa_cons (pe_callB (call_isX T.cg T.ct) (by rfl) T.isi (by decide +kernel) (pa_cons (pv 0) (pa_cons (pe_glob (v := .ref c0) (by rfl) T.g0 rfl) pa_nil))) (pa_cons (pe_callB (call_isX T.cg T.ct) (by rfl) T.isi (by decide +kernel) (pa_cons (pv 0) (pa_cons (pe_glob (v := .ref c1) (by rfl) T.g1 rfl) pa_nil))) (pa_cons (pe_callB (call_isX T.cg T.ct) (by rfl) T.isi (by decide +kernel) (pa_cons (pv 0) (pa_cons (pe_glob (v := .ref c2) (by rfl) T.g2 rfl) pa_nil))) pa_nil)))))
      (pss_cons (ps_set (i := 1) scF.nd rfl (.inl rfl) (pe_op op_cat (pv 1) (pe_lst (pa_cons (pe_callB (call_isX T.cg T.ct) (by rfl) T.isi (by decide +kernel) (pa_cons (pv 0) (pa_cons (pe_glob (v := .ref c3) (by rfl) T.g3 rfl) pa_nil))) (pa_cons (pe_callB (call_isX T.cg T.ct) (by rfl) T.isi (by decide +kernel) (pa_cons (pv 0) (pa_cons (pe_glob (v := .ref c4) (by rfl) T.g4 rfl) pa_nil))) (pa_cons (pe_callB (call_isX T.cg T.ct) (by rfl) T.isi (by decide +kernel) (pa_cons (pv 0) (pa_cons (pe_glob (v := .ref c5) (by rfl) T.g5 rfl) pa_nil))) pa_nil))))))
      (pss_cons (ps_set (i := 1) scF.nd rfl (.inl rfl) (pe_op op_cat (pv 1) (pe_lst (pa_cons (pe_callB (call_isX T.cg T.ct) (by rfl) T.isi (by decide +kernel) (pa_cons (pv 0) (pa_cons (pe_glob (v := .ref c6) (by rfl) T.g6 rfl) pa_nil))) (pa_cons (pe_callB (call_isX T.cg T.ct) (by rfl) T.isi (by decide +kernel) (pa_cons (pv 0) (pa_cons (pe_glob (v := .ref c7) (by rfl) T.g7 rfl) pa_nil))) (pa_cons (pe_callB (call_isX T.cg T.ct) (by rfl) T.isi (by decide +kernel) (pa_cons (pv 0) (pa_cons (pe_glob (v := .ref c8) (by rfl) T.g8 rfl) pa_nil))) pa_nil))))))
      (pss_cons (ps_set (i := 1) scF.nd rfl (.inl rfl) (pe_op op_cat (pv 1) (pe_lst (pa_cons (pe_callB (call_isX T.cg T.ct) (by rfl) T.isi (by decide +kernel) (pa_cons (pv 0) (pa_cons (pe_glob (v := .ref c9) (by rfl) T.g9 rfl) pa_nil))) (pa_cons (pe_callB (call_isX T.cg T.ct) (by rfl) T.isi (by decide +kernel) (pa_cons (pv 0) (pa_cons (pe_glob (v := .ref c10) (by rfl) T.g10 rfl) pa_nil))) (pa_cons (pe_callB (call_isX T.cg T.ct) (by rfl) T.isi (by decide +kernel) (pa_cons (pv 0) (pa_cons (pe_glob (v := .ref c11) (by rfl) T.g11 rfl) pa_nil))) pa_nil))))))
      (pss_cons (ps_set (i := 1) scF.nd rfl (.inl rfl) (pe_op op_cat (pv 1) (pe_lst (pa_cons (pe_callB (call_isX T.cg T.ct) (by rfl) T.isi (by decide +kernel) (pa_cons (pv 0) (pa_cons (pe_glob (v := .ref c12) (by rfl) T.g12 rfl) pa_nil))) (pa_cons (pe_callB (call_isX T.cg T.ct) (by rfl) T.isi (by decide +kernel) (pa_cons (pv 0) (pa_cons (pe_glob (v := .ref c13) (by rfl) T.g13 rfl) pa_nil))) (pa_cons (pe_callB (call_isX T.cg T.ct) (by rfl) T.isi (by decide +kernel) (pa_cons (pv 0) (pa_cons (pe_glob (v := .ref c14) (by rfl) T.g14 rfl) pa_nil))) pa_nil))))))
      (pss_cons (ps_set (i := 1) scF.nd rfl (.inl rfl) (pe_op op_cat (pv 1) (pe_lst (pa_cons (pe_callB (call_isX T.cg T.ct) (by rfl) T.isi (by decide +kernel) (pa_cons (pv 0) (pa_cons (pe_glob (v := .ref c15) (by rfl) T.g15 rfl) pa_nil))) (pa_cons (pe_callB (call_isX T.cg T.ct) (by rfl) T.isi (by decide +kernel) (pa_cons (pv 0) (pa_cons (pe_glob (v := .ref c16) (by rfl) T.g16 rfl) pa_nil))) (pa_cons (pe_callB (call_isX T.cg T.ct) (by rfl) T.isi (by decide +kernel) (pa_cons (pv 0) (pa_cons (pe_glob (v := .ref c17) (by rfl) T.g17 rfl) pa_nil))) pa_nil))))))
      (pss_cons (ps_set (i := 1) scF.nd rfl (.inl rfl) (pe_op op_cat (pv 1) (pe_lst (pa_cons (pe_callB (call_isX T.cg T.ct) (by rfl) T.isi (by decide +kernel) (pa_cons (pv 0) (pa_cons (pe_glob (v := .ref c18) (by rfl) T.g18 rfl) pa_nil))) (pa_cons (pe_callB (call_isX T.cg T.ct) (by rfl) T.isi (by decide +kernel) (pa_cons (pv 0) (pa_cons (pe_glob (v := .ref c19) (by rfl) T.g19 rfl) pa_nil))) (pa_cons (pe_callB (call_isX T.cg T.ct) (by rfl) T.isi (by decide +kernel) (pa_cons (pv 0) (pa_cons (pe_glob (v := .ref c20) (by rfl) T.g20 rfl) pa_nil))) pa_nil))))))
      (pss_cons (ps_set (i := 1) scF.nd rfl (.inl rfl) (pe_op op_cat (pv 1) (pe_lst (pa_cons (pe_callB (call_isX T.cg T.ct) (by rfl) T.isi (by decide +kernel) (pa_cons (pv 0) (pa_cons (pe_glob (v := .ref c21) (by rfl) T.g21 rfl) pa_nil))) pa_nil))))
      (pss_one (ps_ret (pv 1)))))))))), ?_⟩
    have k0 := kit_own co mc (B.all 0 c0 rfl)
    have k1 := kit_own co mc (B.all 1 c1 rfl)
    have k2 := kit_own co mc (B.all 2 c2 rfl)
    have k3 := kit_own co mc (B.all 3 c3 rfl)
    have k4 := kit_own co mc (B.all 4 c4 rfl)
    have k5 := kit_own co mc (B.all 5 c5 rfl)
    have k6 := kit_own co mc (B.all 6 c6 rfl)
    have k7 := kit_own co mc (B.all 7 c7 rfl)
    have k8 := kit_own co mc (B.all 8 c8 rfl)
    have k9 := kit_own co mc (B.all 9 c9 rfl)
    have k10 := kit_own co mc (B.all 10 c10 rfl)
    have k11 := kit_own co mc (B.all 11 c11 rfl)
    have k12 := kit_own co mc (B.all 12 c12 rfl)
    have k13 := kit_own co mc (B.all 13 c13 rfl)
    have k14 := kit_own co mc (B.all 14 c14 rfl)
    have k15 := kit_own co mc (B.all 15 c15 rfl)
    have k16 := kit_own co mc (B.all 16 c16 rfl)
    have k17 := kit_own co mc (B.all 17 c17 rfl)
    have k18 := kit_own co mc (B.all 18 c18 rfl)
    have k19 := kit_own co mc (B.all 19 c19 rfl)
    have k20 := kit_own co mc (B.all 20 c20 rfl)
    have k21 := kit_own co mc (B.all 21 c21 rfl)
    have e0 := xa
    refine ⟨_, rfl, a, C, fs, _, _, _, rfl, e0, .own c0, k0, _, rfl, a, C, fs, _, _, _, rfl, e0, .own c1, k1, _, rfl, a, C, fs, _, _, _, rfl, e0, .own c2, k2, (by show 3 ≤ sizeLine; decide), fun q0 n0 => ?_⟩
    have s0 := same_upd (o := .lst [.bl (mro.contains (.ref c0)), .bl (mro.contains (.ref c1)), .bl (mro.contains (.ref c2))]) n0
    have e1 := xat_same s0 e0
    refine ⟨_, rfl, _, rfl, a, C, fs, _, _, _, rfl, e1, .own c3, k3, _, rfl, a, C, fs, _, _, _, rfl, e1, .own c4, k4, _, rfl, a, C, fs, _, _, _, rfl, e1, .own c5, k5, (by show 3 ≤ sizeLine; decide), fun q1 n1 => ?_⟩
    have sa1 := same_upd (o := .lst [.bl (mro.contains (.ref c3)), .bl (mro.contains (.ref c4)), .bl (mro.contains (.ref c5))]) n1
    refine ⟨q0, q1, [.bl (mro.contains (.ref c0)), .bl (mro.contains (.ref c1)), .bl (mro.contains (.ref c2))], [.bl (mro.contains (.ref c3)), .bl (mro.contains (.ref c4)), .bl (mro.contains (.ref c5))], rfl, rfl, sa1 _ _ upd_same, upd_same, (by show 3 + 3 ≤ sizeLine; decide), fun r1 m1 => ?_⟩
    have sb1 := same_upd (o := .lst [.bl (mro.contains (.ref c0)), .bl (mro.contains (.ref c1)), .bl (mro.contains (.ref c2)), .bl (mro.contains (.ref c3)), .bl (mro.contains (.ref c4)), .bl (mro.contains (.ref c5))]) m1
    have s1 := s0.trans (sa1.trans sb1)
    have u1 := sa1.free m1
    have e3 := xat_same (sa1.trans sb1) e1
    refine ⟨_, rfl, _, rfl, a, C, fs, _, _, _, rfl, e3, .own c6, k6, _, rfl, a, C, fs, _, _, _, rfl, e3, .own c7, k7, _, rfl, a, C, fs, _, _, _, rfl, e3, .own c8, k8, (by show 3 ≤ sizeLine; decide), fun q2 n2 => ?_⟩
    have sa2 := same_upd (o := .lst [.bl (mro.contains (.ref c6)), .bl (mro.contains (.ref c7)), .bl (mro.contains (.ref c8))]) n2
    refine ⟨r1, q2, [.bl (mro.contains (.ref c0)), .bl (mro.contains (.ref c1)), .bl (mro.contains (.ref c2)), .bl (mro.contains (.ref c3)), .bl (mro.contains (.ref c4)), .bl (mro.contains (.ref c5))], [.bl (mro.contains (.ref c6)), .bl (mro.contains (.ref c7)), .bl (mro.contains (.ref c8))], rfl, rfl, sa2 _ _ upd_same, upd_same, (by show 6 + 3 ≤ sizeLine; decide), fun r2 m2 => ?_⟩
    have sb2 := same_upd (o := .lst [.bl (mro.contains (.ref c0)), .bl (mro.contains (.ref c1)), .bl (mro.contains (.ref c2)), .bl (mro.contains (.ref c3)), .bl (mro.contains (.ref c4)), .bl (mro.contains (.ref c5)), .bl (mro.contains (.ref c6)), .bl (mro.contains (.ref c7)), .bl (mro.contains (.ref c8))]) m2
    have s2 := s1.trans (sa2.trans sb2)
    have u2 := sa2.free m2
    have e5 := xat_same (sa2.trans sb2) e3
    refine ⟨_, rfl, _, rfl, a, C, fs, _, _, _, rfl, e5, .own c9, k9, _, rfl, a, C, fs, _, _, _, rfl, e5, .own c10, k10, _, rfl, a, C, fs, _, _, _, rfl, e5, .own c11, k11, (by show 3 ≤ sizeLine; decide), fun q3 n3 => ?_⟩
    have sa3 := same_upd (o := .lst [.bl (mro.contains (.ref c9)), .bl (mro.contains (.ref c10)), .bl (mro.contains (.ref c11))]) n3
    refine ⟨r2, q3, [.bl (mro.contains (.ref c0)), .bl (mro.contains (.ref c1)), .bl (mro.contains (.ref c2)), .bl (mro.contains (.ref c3)), .bl (mro.contains (.ref c4)), .bl (mro.contains (.ref c5)), .bl (mro.contains (.ref c6)), .bl (mro.contains (.ref c7)), .bl (mro.contains (.ref c8))], [.bl (mro.contains (.ref c9)), .bl (mro.contains (.ref c10)), .bl (mro.contains (.ref c11))], rfl, rfl, sa3 _ _ upd_same, upd_same, (by show 9 + 3 ≤ sizeLine; decide), fun r3 m3 => ?_⟩
    have sb3 := same_upd (o := .lst [.bl (mro.contains (.ref c0)), .bl (mro.contains (.ref c1)), .bl (mro.contains (.ref c2)), .bl (mro.contains (.ref c3)), .bl (mro.contains (.ref c4)), .bl (mro.contains (.ref c5)), .bl (mro.contains (.ref c6)), .bl (mro.contains (.ref c7)), .bl (mro.contains (.ref c8)), .bl (mro.contains (.ref c9)), .bl (mro.contains (.ref c10)), .bl (mro.contains (.ref c11))]) m3
    have s3 := s2.trans (sa3.trans sb3)
    have u3 := sa3.free m3
    have e7 := xat_same (sa3.trans sb3) e5
    refine ⟨_, rfl, _, rfl, a, C, fs, _, _, _, rfl, e7, .own c12, k12, _, rfl, a, C, fs, _, _, _, rfl, e7, .own c13, k13, _, rfl, a, C, fs, _, _, _, rfl, e7, .own c14, k14, (by show 3 ≤ sizeLine; decide), fun q4 n4 => ?_⟩
    have sa4 := same_upd (o := .lst [.bl (mro.contains (.ref c12)), .bl (mro.contains (.ref c13)), .bl (mro.contains (.ref c14))]) n4
    refine ⟨r3, q4, [.bl (mro.contains (.ref c0)), .bl (mro.contains (.ref c1)), .bl (mro.contains (.ref c2)), .bl (mro.contains (.ref c3)), .bl (mro.contains (.ref c4)), .bl (mro.contains (.ref c5)), .bl (mro.contains (.ref c6)), .bl (mro.contains (.ref c7)), .bl (mro.contains (.ref c8)), .bl (mro.contains (.ref c9)), .bl (mro.contains (.ref c10)), .bl (mro.contains (.ref c11))], [.bl (mro.contains (.ref c12)), .bl (mro.contains (.ref c13)), .bl (mro.contains (.ref c14))], rfl, rfl, sa4 _ _ upd_same, upd_same, (by show 12 + 3 ≤ sizeLine; decide), fun r4 m4 => ?_⟩
    have sb4 := same_upd (o := .lst [.bl (mro.contains (.ref c0)), .bl (mro.contains (.ref c1)), .bl (mro.contains (.ref c2)), .bl (mro.contains (.ref c3)), .bl (mro.contains (.ref c4)), .bl (mro.contains (.ref c5)), .bl (mro.contains (.ref c6)), .bl (mro.contains (.ref c7)), .bl (mro.contains (.ref c8)), .bl (mro.contains (.ref c9)), .bl (mro.contains (.ref c10)), .bl (mro.contains (.ref c11)), .bl (mro.contains (.ref c12)), .bl (mro.contains (.ref c13)), .bl (mro.contains (.ref c14))]) m4
    have s4 := s3.trans (sa4.trans sb4)
    have u4 := sa4.free m4
    have e9 := xat_same (sa4.trans sb4) e7
    refine ⟨_, rfl, _, rfl, a, C, fs, _, _, _, rfl, e9, .own c15, k15, _, rfl, a, C, fs, _, _, _, rfl, e9, .own c16, k16, _, rfl, a, C, fs, _, _, _, rfl, e9, .own c17, k17, (by show 3 ≤ sizeLine; decide), fun q5 n5 => ?_⟩
    have sa5 := same_upd (o := .lst [.bl (mro.contains (.ref c15)), .bl (mro.contains (.ref c16)), .bl (mro.contains (.ref c17))]) n5
    refine ⟨r4, q5, [.bl (mro.contains (.ref c0)), .bl (mro.contains (.ref c1)), .bl (mro.contains (.ref c2)), .bl (mro.contains (.ref c3)), .bl (mro.contains (.ref c4)), .bl (mro.contains (.ref c5)), .bl (mro.contains (.ref c6)), .bl (mro.contains (.ref c7)), .bl (mro.contains (.ref c8)), .bl (mro.contains (.ref c9)), .bl (mro.contains (.ref c10)), .bl (mro.contains (.ref c11)), .bl (mro.contains (.ref c12)), .bl (mro.contains (.ref c13)), .bl (mro.contains (.ref c14))], [.bl (mro.contains (.ref c15)), .bl (mro.contains (.ref c16)), .bl (mro.contains (.ref c17))], rfl, rfl, sa5 _ _ upd_same, upd_same, (by show 15 + 3 ≤ sizeLine; decide), fun r5 m5 => ?_⟩
    have sb5 := same_upd (o := .lst [.bl (mro.contains (.ref c0)), .bl (mro.contains (.ref c1)), .bl (mro.contains (.ref c2)), .bl (mro.contains (.ref c3)), .bl (mro.contains (.ref c4)), .bl (mro.contains (.ref c5)), .bl (mro.contains (.ref c6)), .bl (mro.contains (.ref c7)), .bl (mro.contains (.ref c8)), .bl (mro.contains (.ref c9)), .bl (mro.contains (.ref c10)), .bl (mro.contains (.ref c11)), .bl (mro.contains (.ref c12)), .bl (mro.contains (.ref c13)), .bl (mro.contains (.ref c14)), .bl (mro.contains (.ref c15)), .bl (mro.contains (.ref c16)), .bl (mro.contains (.ref c17))]) m5
    have s5 := s4.trans (sa5.trans sb5)
    have u5 := sa5.free m5
    have e11 := xat_same (sa5.trans sb5) e9
    refine ⟨_, rfl, _, rfl, a, C, fs, _, _, _, rfl, e11, .own c18, k18, _, rfl, a, C, fs, _, _, _, rfl, e11, .own c19, k19, _, rfl, a, C, fs, _, _, _, rfl, e11, .own c20, k20, (by show 3 ≤ sizeLine; decide), fun q6 n6 => ?_⟩
    have sa6 := same_upd (o := .lst [.bl (mro.contains (.ref c18)), .bl (mro.contains (.ref c19)), .bl (mro.contains (.ref c20))]) n6
    refine ⟨r5, q6, [.bl (mro.contains (.ref c0)), .bl (mro.contains (.ref c1)), .bl (mro.contains (.ref c2)), .bl (mro.contains (.ref c3)), .bl (mro.contains (.ref c4)), .bl (mro.contains (.ref c5)), .bl (mro.contains (.ref c6)), .bl (mro.contains (.ref c7)), .bl (mro.contains (.ref c8)), .bl (mro.contains (.ref c9)), .bl (mro.contains (.ref c10)), .bl (mro.contains (.ref c11)), .bl (mro.contains (.ref c12)), .bl (mro.contains (.ref c13)), .bl (mro.contains (.ref c14)), .bl (mro.contains (.ref c15)), .bl (mro.contains (.ref c16)), .bl (mro.contains (.ref c17))], [.bl (mro.contains (.ref c18)), .bl (mro.contains (.ref c19)), .bl (mro.contains (.ref c20))], rfl, rfl, sa6 _ _ upd_same, upd_same, (by show 18 + 3 ≤ sizeLine; decide), fun r6 m6 => ?_⟩
    have sb6 := same_upd (o := .lst [.bl (mro.contains (.ref c0)), .bl (mro.contains (.ref c1)), .bl (mro.contains (.ref c2)), .bl (mro.contains (.ref c3)), .bl (mro.contains (.ref c4)), .bl (mro.contains (.ref c5)), .bl (mro.contains (.ref c6)), .bl (mro.contains (.ref c7)), .bl (mro.contains (.ref c8)), .bl (mro.contains (.ref c9)), .bl (mro.contains (.ref c10)), .bl (mro.contains (.ref c11)), .bl (mro.contains (.ref c12)), .bl (mro.contains (.ref c13)), .bl (mro.contains (.ref c14)), .bl (mro.contains (.ref c15)), .bl (mro.contains (.ref c16)), .bl (mro.contains (.ref c17)), .bl (mro.contains (.ref c18)), .bl (mro.contains (.ref c19)), .bl (mro.contains (.ref c20))]) m6
    have s6 := s5.trans (sa6.trans sb6)
    have u6 := sa6.free m6
    have e13 := xat_same (sa6.trans sb6) e11
    refine ⟨_, rfl, _, rfl, a, C, fs, _, _, _, rfl, e13, .own c21, k21, (by show 1 ≤ sizeLine; decide), fun q7 n7 => ?_⟩
    have sa7 := same_upd (o := .lst [.bl (mro.contains (.ref c21))]) n7
    refine ⟨r6, q7, [.bl (mro.contains (.ref c0)), .bl (mro.contains (.ref c1)), .bl (mro.contains (.ref c2)), .bl (mro.contains (.ref c3)), .bl (mro.contains (.ref c4)), .bl (mro.contains (.ref c5)), .bl (mro.contains (.ref c6)), .bl (mro.contains (.ref c7)), .bl (mro.contains (.ref c8)), .bl (mro.contains (.ref c9)), .bl (mro.contains (.ref c10)), .bl (mro.contains (.ref c11)), .bl (mro.contains (.ref c12)), .bl (mro.contains (.ref c13)), .bl (mro.contains (.ref c14)), .bl (mro.contains (.ref c15)), .bl (mro.contains (.ref c16)), .bl (mro.contains (.ref c17)), .bl (mro.contains (.ref c18)), .bl (mro.contains (.ref c19)), .bl (mro.contains (.ref c20))], [.bl (mro.contains (.ref c21))], rfl, rfl, sa7 _ _ upd_same, upd_same, (by show 21 + 1 ≤ sizeLine; decide), fun r7 m7 => ?_⟩
    have sb7 := same_upd (o := .lst [.bl (mro.contains (.ref c0)), .bl (mro.contains (.ref c1)), .bl (mro.contains (.ref c2)), .bl (mro.contains (.ref c3)), .bl (mro.contains (.ref c4)), .bl (mro.contains (.ref c5)), .bl (mro.contains (.ref c6)), .bl (mro.contains (.ref c7)), .bl (mro.contains (.ref c8)), .bl (mro.contains (.ref c9)), .bl (mro.contains (.ref c10)), .bl (mro.contains (.ref c11)), .bl (mro.contains (.ref c12)), .bl (mro.contains (.ref c13)), .bl (mro.contains (.ref c14)), .bl (mro.contains (.ref c15)), .bl (mro.contains (.ref c16)), .bl (mro.contains (.ref c17)), .bl (mro.contains (.ref c18)), .bl (mro.contains (.ref c19)), .bl (mro.contains (.ref c20)), .bl (mro.contains (.ref c21))]) m7
    have s7 := s6.trans (sa7.trans sb7)
    have u7 := sa7.free m7
    have e15 := xat_same (sa7.trans sb7) e13
    exact ⟨_, rfl, q _ r7 s7 (s6.free u7) upd_same⟩
end
end My

namespace My
open PySem PySem.Spec PyProof.Rows L2 Gy Xl
theorem ref_ne_ty (D : Addr) (T : String) : (Value.ref D == Value.type T) = false := by
  cases h : (Value.ref D == Value.type T) with
  | false => rfl
  | true => exact nomatch beq_iff_eq.mp h
theorem tail_ref (D : Addr) (b : Nat) : (tailOf b).contains (.ref D) = false := by
  unfold tailOf
  split <;> simp only [List.contains_cons, ref_ne_ty, Bool.false_or, List.contains_nil]
theorem mro_ref (R C D : Addr) (b : Nat) (hR : D ≠ R) : (mroOf R C b).contains (.ref D) = (Value.ref D == Value.ref C) := by
  unfold mroOf
  have e : (Value.ref D == Value.ref R) = false := by
    cases h : (Value.ref D == Value.ref R) with
    | false => rfl
    | true => exact absurd (Value.ref.inj (beq_iff_eq.mp h)) hR
  split
  · rw [List.contains_cons, List.contains_cons, tail_ref, e, Bool.or_false, Bool.or_false]
  · rw [List.contains_cons, tail_ref, Bool.or_false]
theorem flags_due {R C : Addr} {Cs : List Addr} {i : Nat} (b : Nat) (nd : (R :: Cs).Nodup) (len : Cs.length = 22) (h : Cs[i]? = some C) :
    (Cs.map fun D => (mroOf R C b).contains (.ref D)) = (List.replicate 22 false).set i true := by
  obtain ⟨nR, nC⟩ := List.nodup_cons.mp nd
  have hi : i < 22 := by
    rw [← len]
    exact (List.getElem?_eq_some_iff.mp h).1
  apply List.ext_getElem?
  intro j
  rw [List.getElem?_map, List.getElem?_set, List.getElem?_replicate, List.length_replicate]
  cases hj : Cs[j]? with
  | none =>
    have h22 : ¬ j < 22 := by
      rw [← len]
      exact Nat.not_lt.mpr (List.getElem?_eq_none_iff.mp hj)
    rw [if_neg h22, if_neg (by omega)]
    rfl
  | some D =>
    have h22 : j < 22 := by
      rw [← len]
      exact (List.getElem?_eq_some_iff.mp hj).1
    have dR : D ≠ R := fun z => nR (z ▸ List.mem_of_getElem? hj)
    rw [Option.map_some, mro_ref R C D b dR, if_pos h22]
    by_cases e : i = j
    · subst e
      rw [h] at hj
      cases hj
      rw [if_pos rfl, if_pos hi, beq_self_eq_true]
    · rw [if_neg e]
      congr 1
      cases z : (Value.ref D == Value.ref C) with
      | false => rfl
      | true =>
        have dc := Value.ref.inj (beq_iff_eq.mp z)
        subst dc
        exact absurd ((List.getElem?_inj (by rw [len]; exact hi) nC).mp (h.trans hj.symm)) e
def baseS : Nat → Str
  | 0 => "value"
  | 1 => "lookup"
  | 2 => "runtime"
  | _ => "arithmetic"
def exL : Nat → List Int
  | 0 => [0, 1]
  | 1 => [2]
  | 2 => [3]
  | _ => [4]
theorem kind_cases (i : Nat) : kindOf i = 0 ∨ kindOf i = 1 ∨ kindOf i = 2 ∨ kindOf i = 3 := by
  unfold kindOf
  split
  · exact .inl rfl
  · split
    · exact .inr (.inl rfl)
    · split
      · exact .inr (.inr (.inl rfl))
      · exact .inr (.inr (.inr rfl))
/-- what isinstance says of the six classes -/
def kindsL (R : Addr) (mro : List Value) : List Bool := [mro.contains (.ref R), mro.contains (.type "ValueError"), mro.contains (.type "LookupError"), mro.contains (.type "RuntimeError"), mro.contains (.type "ArithmeticError"), mro.contains (.type "KeyError")]
def inEx (b k : Nat) : Bool := inV (.int (k : Int)) ((exL b).map V.int)
theorem kinds_due {R C : Addr} (nr : C ≠ R) {b : Nat} (hb : b = 0 ∨ b = 1 ∨ b = 2 ∨ b = 3) : kindsL R (mroOf R C b) = (List.range 6).map (inEx b) := by
  have e : (Value.ref R == Value.ref C) = false := by
    cases h : (Value.ref R == Value.ref C) with
    | false => rfl
    | true => exact absurd (Value.ref.inj (beq_iff_eq.mp h)).symm nr
  have ty : ∀ T : String, (Value.type T == Value.ref C) = false := fun T => by
    cases h : (Value.type T == Value.ref C) with
    | false => rfl
    | true => exact nomatch beq_iff_eq.mp h
  have tr : ∀ T : String, (Value.type T == Value.ref R) = false := fun T => by
    cases h : (Value.type T == Value.ref R) with
    | false => rfl
    | true => exact nomatch beq_iff_eq.mp h
  rcases hb with rfl | rfl | rfl | rfl
  all_goals
    unfold kindsL mroOf
    first | rw [if_pos rfl] | rw [if_neg (by decide)]
    simp only [List.contains_cons, e, ty, tr, Bool.false_or, tail_ref, beq_self_eq_true, Bool.true_or]
    decide +kernel
theorem dp_bools {K : PySem.W.Frag} {H : Hp} : ∀ bs : List Bool, DpAll K H (bs.map V.bl) (bs.map PyData.bool)
  | [] => .nil
  | b :: r => .cons (.bl b) (dp_bools r)
theorem lay_bools : ∀ bs : List Bool, PyData.canLayAll0 (bs.map PyData.bool) = true
  | [] => rfl
  | b :: r => by
    show (true && PyData.canLayAll0 (r.map PyData.bool)) = true
    rw [lay_bools r]
    rfl
theorem deep_bools : ∀ bs : List Bool, PyData.depthAll (bs.map PyData.bool) = 0
  | [] => rfl
  | b :: r => by
    show max 0 (PyData.depthAll (r.map PyData.bool)) = 0
    rw [deep_bools r]
    rfl
theorem sh_bools (bs : List Bool) : SeqAt.shaped (.list (bs.map PyData.bool)) = true := by
  unfold SeqAt.shaped
  rw [show PyData.canLay0 (.list (bs.map PyData.bool)) = true from lay_bools bs, show PyData.depth (.list (bs.map PyData.bool)) = 1 by show PyData.depthAll _ + 1 = 1; rw [deep_bools]]
  decide
theorem eq_bools (bs : List Bool) : PyData.eqv (.list (bs.map PyData.bool)) (.list (bs.map PyData.bool)) = true := SeqAt.eqv_refl _ (lay_bools bs)
theorem due_eq (i : Nat) : ((List.replicate (22 : Int).toNat [V.bl false]).flatten).set i (.bl true) = (((List.replicate 22 false).set i true).map V.bl) := by
  rw [List.map_set]
  rfl
theorem ix22 {i : Nat} (h : i < 22) : ixN ((List.replicate (22 : Int).toNat [V.bl false]).flatten).length (i : Int) = some i := by
  show ixN 22 (i : Int) = some i
  unfold ixN
  rw [if_pos (by omega), if_pos (by omega)]
  simp
theorem take_range {b i : Nat} : ((List.range (i + 1)).map (inEx b)).map V.bl = ((List.range i).map (inEx b)).map V.bl ++ [V.bl (inEx b i)] := by
  rw [List.range_succ, List.map_append, List.map_append]
  rfl
theorem flat_ex (b : Nat) : ((exL b).map V.int).all flatV = true := by
  unfold exL
  split <;> rfl
def expD (e0 e1 e2 e3 : Addr) : List (Key × V) := [(Sum.inr "value", .ref e0), (Sum.inr "lookup", .ref e1), (Sum.inr "runtime", .ref e2), (Sum.inr "arithmetic", .ref e3)]
theorem exp_at {Hx : Hp} {d e0 e1 e2 e3 : Addr} (i : Nat) (w0 : d ≠ e0) (w1 : d ≠ e1) (w2 : d ≠ e2) (w3 : d ≠ e3) (g0 : Hx e0 = some (.lst [.int 0, .int 1])) (g1 : Hx e1 = some (.lst [.int 2])) (g2 : Hx e2 = some (.lst [.int 3])) (g3 : Hx e3 = some (.lst [.int 4])) :
    ∃ ek, valV (mergeK [] (expD e0 e1 e2 e3)) (Sum.inr (baseS (kindOf i))) = some (.ref ek) ∧ (upd Hx d (.dK (mergeK [] (expD e0 e1 e2 e3)))) ek = some (.lst ((exL (kindOf i)).map V.int)) := by
  rcases kind_cases i with hk | hk | hk | hk
  · rw [hk]
    exact ⟨e0, by with_unfolding_all rfl, (upd_ne w0.symm).trans g0⟩
  · rw [hk]
    exact ⟨e1, by with_unfolding_all rfl, (upd_ne w1.symm).trans g1⟩
  · rw [hk]
    exact ⟨e2, by with_unfolding_all rfl, (upd_ne w2.symm).trans g2⟩
  · rw [hk]
    exact ⟨e3, by with_unfolding_all rfl, (upd_ne w3.symm).trans g3⟩
structure TxtA (mg : Str → Option Value) (fF : Addr) : Prop where
  gF : mg "_law_flags" = some (.ref fF)
  ve : mg "ValueError" = none
  le : mg "LookupError" = none
  re : mg "RuntimeError" = none
  ae : mg "ArithmeticError" = none
  ke : mg "KeyError" = none
  range : mg "range" = none
section
variable {P : Program} {w : World} {K : PySem.W.Frag} {mg : Str → Option Value} {base : Heap}
def spAre (K : PySem.W.Frag) (Cs : List Addr) : Sp := fun vs H Q _ => ∃ (a1 a2 C : Addr) (f1 f2 : List (Str × V)) (i : Nat), vs = [.ref a1, .ref a2, .int (i : Int), .str (baseS (kindOf i))] ∧ Cs[i]? = some C ∧ XAt K H a1 C f1 ∧ XAt K H a2 C f2 ∧
  ∀ H', Same H H' → Q (.bl true) H'
theorem scA : FnScope ["_law_first", "_law_second", "_law_at", "_law_base", "_law_due", "_law_expected", "_law_e", "_law_kinds", "_law_k"] ["_law_first", "_law_second", "_law_at", "_law_base"] (defScope sAre) :=
  ⟨rfl, rfl, rfl, by decide +kernel, rfl, by decide +kernel, by decide +kernel⟩
theorem ok_are {f fF R c0 c1 c2 c3 c4 c5 c6 c7 c8 c9 c10 c11 c12 c13 c14 c15 c16 c17 c18 c19 c20 c21 : Addr} {fd fdF : FuncData} (F : Fun K "_law_are_right" "_law_are_right" sAre f fd) (TF : TxtF K mg R c0 c1 c2 c3 c4 c5 c6 c7 c8 c9 c10 c11 c12 c13 c14 c15 c16 c17 c18 c19 c20 c21) (T : TxtA mg fF) (B : Tab K R [c0, c1, c2, c3, c4, c5, c6, c7, c8, c9, c10, c11, c12, c13, c14, c15, c16, c17, c18, c19, c20, c21])
    (FF : Fun K "_law_flags" "_law_flags" sFlags fF fdF) (bF : Binds K fdF ["_law_e"] []) : FnOk P w K mg base CX0 2 f fd ["_law_first", "_law_second", "_law_at", "_law_base"] (spAre K [c0, c1, c2, c3, c4, c5, c6, c7, c8, c9, c10, c11, c12, c13, c14, c15, c16, c17, c18, c19, c20, c21]) := by
  have GF : FnOk P w K mg base CX0 1 fF fdF ["_law_e"] (spFlags K [c0, c1, c2, c3, c4, c5, c6, c7, c8, c9, c10, c11, c12, c13, c14, c15, c16, c17, c18, c19, c20, c21]) := ok_flags FF TF B
  refine F.ok scA (fun vs H Q E h => ?_) (fun cdv A outer s H vs Q E hr h => ?_)
  · obtain ⟨a1, a2, C, f1, f2, i, rfl, _⟩ := h
    rfl
  · obtain ⟨a1, a2, C, f1, f2, i, rfl, hC, x1, x2, q⟩ := h
    have hu := hu_of hr
    have hu64 := hr.units
    refine ⟨_, pss_cons (ps_set (i := 4) scA.nd rfl (.inl rfl) (pe_op op_rep (pe_lst (pa_cons pe_bl pa_nil)) pe_int))
      (pss_cons (ps_asg pe_bl (pg_sub (pv 4) (pv 2) set_list))
      (pss_cons (ps_set (i := 5) scA.nd rfl (.inr rfl) (pe_dget hu (pe_disp (pps_cons pe_str (pe_lst (pa_cons pe_int (pa_cons pe_int pa_nil))) (pps_cons pe_str (pe_lst (pa_cons pe_int pa_nil)) (pps_cons pe_str (pe_lst (pa_cons pe_int pa_nil))
          (pps_cons pe_str (pe_lst (pa_cons pe_int pa_nil)) pps_nil)))) (by rfl) (by rfl) (fun z => by cases z) (by decide)) (pv 3) (fun _ _ => rfl)))
      (pss_cons (ps_for PassesOwn.never rfl (pi_tup (pe_tup (pa_cons (pv 0) (pa_cons (pv 1) pa_nil)))) (pg_name (i := 6) scA.nd rfl (.inl rfl))
        (pss_cons (ps_set (i := 7) scA.nd rfl (.inl rfl) (pe_lst (pa_cons (pe_callB (call_isX TF.cg TF.ct) (by rfl) TF.isi (by decide +kernel) (pa_cons (pv 6) (pa_cons (pe_glob (v := .ref R) (by rfl) TF.gR rfl) pa_nil)))
            (pa_cons (pe_callB (call_isX TF.cg TF.ct) (by rfl) TF.isi (by decide +kernel) (pa_cons (pv 6) (pa_cons (pe_bltn (v := .ty "ValueError") (by rfl) T.ve (by decide +kernel) rfl) pa_nil)))
            (pa_cons (pe_callB (call_isX TF.cg TF.ct) (by rfl) TF.isi (by decide +kernel) (pa_cons (pv 6) (pa_cons (pe_bltn (v := .ty "LookupError") (by rfl) T.le (by decide +kernel) rfl) pa_nil))) pa_nil)))))
        (pss_cons (ps_set (i := 7) scA.nd rfl (.inl rfl) (pe_op op_cat (pv 7) (pe_lst (pa_cons (pe_callB (call_isX TF.cg TF.ct) (by rfl) TF.isi (by decide +kernel) (pa_cons (pv 6) (pa_cons (pe_bltn (v := .ty "RuntimeError") (by rfl) T.re (by decide +kernel) rfl) pa_nil)))
            (pa_cons (pe_callB (call_isX TF.cg TF.ct) (by rfl) TF.isi (by decide +kernel) (pa_cons (pv 6) (pa_cons (pe_bltn (v := .ty "ArithmeticError") (by rfl) T.ae (by decide +kernel) rfl) pa_nil)))
            (pa_cons (pe_callB (call_isX TF.cg TF.ct) (by rfl) TF.isi (by decide +kernel) (pa_cons (pv 6) (pa_cons (pe_bltn (v := .ty "KeyError") (by rfl) T.ke (by decide +kernel) rfl) pa_nil))) pa_nil))))))
        (pss_one (ps_if (PW.pt (pw_or (pt_cmpR (op_neD hu64) (pe_call GF hr (by rfl) T.gF FF.kp bF .nil pass0 (pa_cons (pv 6) pa_nil)) (pv 4) (nomark _))
            (pw_or1 (pt_cmpR (op_neD hu64) (pv 7) (pe_lc (own := [("_law_k", 8)]) (g := gName 8) (tt := tYes) (te := tOp (rIn K false) (tVar 8) (tVar 5)) rfl scA.nd (pi_range1 (by rfl) T.range (pa_cons pe_int pa_nil))
              (blkOk_by (N := ["_law_first", "_law_second", "_law_at", "_law_base", "_law_due", "_law_expected", "_law_e", "_law_kinds", "_law_k"]) (sc := defScope sAre) (by decide +kernel))
              (fun _ _ _ _ _ => pg_name (i := 8) scA.nd rfl (Or.inl rfl)) (fun _ _ _ _ _ => pts_nil) (fun _ _ _ _ _ => pe_cmpR op_in_seq (pv 8) (pv 5) (by rfl))) (nomark _)))))
          (pss_one (ps_ret pe_bl)) pss_nil)))))
      (pss_one (ps_ret pe_bl))))), ?_⟩
    have hi : i < 22 := (List.getElem?_eq_some_iff.mp hC).1
    have co := B.all i C hC
    have nCR : C ≠ R := fun z => (List.nodup_cons.mp B.nd).1 (z ▸ List.mem_of_getElem? hC)
    have mc : (mroOf R C (kindOf i)).contains (.ref C) = true := by
      rw [mro_ref R C C _ nCR]
      exact beq_self_eq_true _
    have mne : mroOf R C (kindOf i) ≠ [] := fun z => by
      rw [z] at mc
      cases mc
    have kR := kit_own co mc B.r
    have kT : ∀ T : String, PySem.W.kitMeta T = true → PySem.W.kitOne K (.ref C) (.type T) = some ((mroOf R C (kindOf i)).contains (.type T)) := fun T h => kit_bt co mne h
    -- due
    refine ⟨(by show 1 ≤ sizeLine; decide), fun l0 n0 => ?_⟩
    refine ⟨l0, 22, _, rfl, rfl, upd_same, by decide, by decide, (by show 1 * 22 ≤ sizeLine; decide), fun Dd nD => ?_⟩
    refine ⟨_, rfl, _, rfl, Dd, _, (i : Int), i, rfl, rfl, upd_same, ix22 hi, ?_⟩
    have s1 := same_upd (o := .lst [.bl false]) n0
    have s2 := same_upd2 (o := .lst (((List.replicate (22 : Int).toNat [V.bl false]).flatten).set i (.bl true))) (same_upd (o := .lst (List.replicate (22 : Int).toNat [V.bl false]).flatten) nD) nD
    have s02 := s1.trans s2
    rw [due_eq] at s2 s02 ⊢
    -- expected
    intro d nd
    refine ⟨(by show 2 ≤ sizeLine; decide), fun e0 m0 => ⟨(by show 1 ≤ sizeLine; decide), fun e1 m1 => ⟨(by show 1 ≤ sizeLine; decide), fun e2 m2 => ⟨(by show 1 ≤ sizeLine; decide), fun e3 m3 => ?_⟩⟩⟩⟩
    have s3 := same_upd (o := .dK []) nd
    have s4 := same_upd (o := .lst [.int 0, .int 1]) m0
    have s5 := same_upd (o := .lst [.int 2]) m1
    have s6 := same_upd (o := .lst [.int 3]) m2
    have s7 := same_upd (o := .lst [.int 4]) m3
    have s37 := s4.trans (s5.trans (s6.trans s7))
    refine ⟨s37 _ _ upd_same, [(Sum.inr "value", .ref e0), (Sum.inr "lookup", .ref e1), (Sum.inr "runtime", .ref e2), (Sum.inr "arithmetic", .ref e3)], rfl, (by show 4 ≤ 15; decide), ?_⟩
    have s8 : Same _ (upd _ d (.dK (mergeK [] [(Sum.inr "value", .ref e0), (Sum.inr "lookup", .ref e1), (Sum.inr "runtime", .ref e2), (Sum.inr "arithmetic", .ref e3)]))) := same_upd2 (s3.trans s37) nd
    have w0 : d ≠ e0 := ne_of_none upd_same m0
    have w1 : d ≠ e1 := ne_of_none (s4 _ _ upd_same) m1
    have w2 : d ≠ e2 := ne_of_none ((s4.trans s5) _ _ upd_same) m2
    have w3 : d ≠ e3 := ne_of_none ((s4.trans (s5.trans s6)) _ _ upd_same) m3
    have g0 := (s5.trans (s6.trans s7)) _ _ (upd_same (a := e0))
    have g1 := (s6.trans s7) _ _ (upd_same (a := e1))
    have g2 := s7 _ _ (upd_same (a := e2))
    have s08 := s02.trans s8
    have hdue := s8 _ _ (upd_same (a := Dd))
    have hv := exp_at i w0 w1 w2 w3 g0 g1 g2 (upd_same (a := e3))
    obtain ⟨ek, hv1, hv2⟩ := hv
    refine ⟨_, rfl, d, .ref ek, rfl, ?_, ?_⟩
    · rw [← hv1]
      exact DGet.k (k := Sum.inr (baseS (kindOf i))) upd_same
    -- the two errors
    refine ⟨_, rfl, _, rfl, (by show 2 ≤ sizeLine; decide), fun tp ntp => ?_⟩
    have s9 := same_upd (o := .tup [.ref a1, .ref a2]) ntp
    refine ⟨tp, rfl, ⟨_, SqT.of upd_same⟩, ?_⟩
    refine for_it (walk_tup (K := K) (a := tp) (xs := [.ref a1, .ref a2])) (fun j σ H' => Same H H' ∧ H' Dd = some (.lst (((List.replicate 22 false).set i true).map V.bl)) ∧ H' ek = some (.lst ((exL (kindOf i)).map V.int)) ∧ H' tp = some (.tup [.ref a1, .ref a2]) ∧
        ∃ y6 y7 y8, σ = [some (.ref a1), some (.ref a2), some (.int (i : Int)), some (.str (baseS (kindOf i))), some (.ref Dd), some (.ref ek), y6, y7, y8])
      ⟨s08.trans s9, s9 _ _ hdue, s9 _ _ hv2, upd_same, _, _, _, rfl⟩ (fun j σ H' _ h => SqT.of h.2.2.2.1) ?_ ?_
    · rintro j x σ H5 H6 hj ⟨sm, hd6, hk6, ht6, y6, y7, y8, rfl⟩ ⟨rfl, hx⟩
      obtain ⟨ax, fx, rfl, xa⟩ : ∃ ax fx, x = .ref ax ∧ XAt K H6 ax C fx := by
        have mem := List.mem_of_getElem? hx
        simp only [List.mem_cons, List.not_mem_nil, or_false] at mem
        rcases mem with rfl | rfl
        · exact ⟨a1, f1, rfl, xat_same sm x1⟩
        · exact ⟨a2, f2, rfl, xat_same sm x2⟩
      refine ⟨_, rfl, ax, C, fx, _, _, _, rfl, xa, .own R, kR, _, rfl, ax, C, fx, _, _, _, rfl, xa, .ty "ValueError", kT _ (by decide +kernel), _, rfl, ax, C, fx, _, _, _, rfl, xa, .ty "LookupError", kT _ (by decide +kernel), (by show 3 ≤ sizeLine; decide), fun q1 p1 => ?_⟩
      have t1 := same_upd (o := .lst [.bl ((mroOf R C (kindOf i)).contains (.ref R)), .bl ((mroOf R C (kindOf i)).contains (.type "ValueError")), .bl ((mroOf R C (kindOf i)).contains (.type "LookupError"))]) p1
      have xa1 := xat_same t1 xa
      refine ⟨_, rfl, _, rfl, ax, C, fx, _, _, _, rfl, xa1, .ty "RuntimeError", kT _ (by decide +kernel), _, rfl, ax, C, fx, _, _, _, rfl, xa1, .ty "ArithmeticError", kT _ (by decide +kernel), _, rfl, ax, C, fx, _, _, _, rfl, xa1, .ty "KeyError", kT _ (by decide +kernel), (by show 3 ≤ sizeLine; decide), fun q2 p2 => ?_⟩
      have t2 := same_upd (o := .lst [.bl ((mroOf R C (kindOf i)).contains (.type "RuntimeError")), .bl ((mroOf R C (kindOf i)).contains (.type "ArithmeticError")), .bl ((mroOf R C (kindOf i)).contains (.type "KeyError"))]) p2
      refine ⟨q1, q2, _, _, rfl, rfl, t2 _ _ upd_same, upd_same, (by show 3 + 3 ≤ sizeLine; decide), fun q3 p3 => ?_⟩
      have t3 := same_upd (o := .lst ((kindsL R (mroOf R C (kindOf i))).map V.bl)) p3
      have t13 := t1.trans (t2.trans t3)
      refine ⟨_, rfl, ax, C, fx, _, rfl, xat_same t13 xa, co, mc, fun H7 p s7 np hp => ?_⟩
      rw [flags_due (kindOf i) B.nd B.len hC] at hp
      have hd7 := s7 _ _ (t13 _ _ hd6)
      have hk7 := s7 _ _ (upd_same (a := q3) : _ = some (HO.lst ((kindsL R (mroOf R C (kindOf i))).map V.bl)))
      refine ⟨_, rfl, _, _, .lst (SqL.of hp) (dp_bools _), .lst (SqL.of hd7) (dp_bools _), sh_bools _, sh_bools _, _, rfl, ?_⟩
      rw [eq_bools]
      refine iteF ?_
      refine ⟨_, rfl, 6, rfl, by decide, by decide, fun Dl nl => ?_⟩
      have hek := s7 _ _ (t13 _ _ hk6)
      refine lc_it (walk_range (lo := 0) (n := 6)) (fun k H' => Same H7 H' ∧ H' Dl = some (.lst (((List.range k).map (inEx (kindOf i))).map V.bl))) ⟨same_upd nl, upd_same⟩ (fun _ _ _ _ => trivial) ?_ ?_
      · rintro k y H8 H9 hk ⟨s8, h8⟩ ⟨rfl, rfl⟩
        refine ⟨rfl, ?_⟩
        dsimp only [tYes]
        refine iteT ?_
        refine ⟨_, rfl, _, rfl, ek, _, rfl, .inl (SqL.of (s8 _ _ hek)), rfl, flat_ex _, _, h8, ?_, same_upd2 s8 nl, ?_⟩
        · rw [List.length_map, List.length_map, List.length_range]
          exact small200 (by omega)
        · rw [upd_same, take_range]
          show some (HO.lst (_ ++ [V.bl (inV (.int (0 + (k : Int))) _)])) = _
          rw [Int.zero_add]
          rfl
      · rintro H8 ⟨s8, h8⟩
        rw [← kinds_due nCR (kind_cases i)] at h8
        refine ⟨_, _, .lst (SqL.of (s8 _ _ hk7)) (dp_bools _), .lst (SqL.of h8) (dp_bools _), sh_bools _, sh_bools _, _, rfl, ?_⟩
        rw [eq_bools]
        refine iteF ?_
        exact ⟨(sm.trans t13).trans (s7.trans s8), s8 _ _ hd7, s8 _ _ hek, s8 _ _ (s7 _ _ (t13 _ _ ht6)), _, _, _, rfl⟩
    · rintro σ H5 ⟨sm, _, _, _, y6, y7, y8, rfl⟩
      exact q _ sm
end
end My

namespace My
open PySem PySem.Spec PyProof.Rows L2 Gy Xl

abbrev sI0 : Stmt := inClass (top 2) 0
abbrev sI1 : Stmt := inClass (top 3) 0
abbrev sI2 : Stmt := inClass (top 4) 0
abbrev sI3 : Stmt := inClass (top 5) 0
abbrev sI4 : Stmt := inClass (top 6) 0
abbrev sI5 : Stmt := inClass (top 7) 0
abbrev sI6 : Stmt := inClass (top 8) 0
abbrev sI7 : Stmt := inClass (top 9) 0
abbrev sI8 : Stmt := inClass (top 10) 0
abbrev sI9 : Stmt := inClass (top 11) 0
abbrev sI10 : Stmt := inClass (top 12) 0
abbrev sI11 : Stmt := inClass (top 13) 0
abbrev sI12 : Stmt := inClass (top 14) 0
abbrev sI13 : Stmt := inClass (top 15) 0
abbrev sI14 : Stmt := inClass (top 16) 0
abbrev sI15 : Stmt := inClass (top 17) 0
abbrev sI16 : Stmt := inClass (top 18) 0
abbrev sI17 : Stmt := inClass (top 19) 0
abbrev sI18 : Stmt := inClass (top 20) 0
abbrev sI19 : Stmt := inClass (top 21) 0
abbrev sI20 : Stmt := inClass (top 22) 0
abbrev sI21 : Stmt := inClass (top 23) 0

def spI1 (C : Addr) (f : Str) : Sp := fun vs H Q _ => ∃ (a : Addr) (v : V), vs = [.ref a, v] ∧ H a = some (exo a C none) ∧ ∀ dx, H dx = none → dx ≠ a → Q .non (upd (upd H dx (exd dx [(f, v)])) a (exo a C (some dx)))
def spI2 (C : Addr) (f1 f2 : Str) : Sp := fun vs H Q _ => ∃ (a : Addr) (v1 v2 : V), vs = [.ref a, v1, v2] ∧ H a = some (exo a C none) ∧
  ∀ dx, H dx = none → dx ≠ a → Q .non (upd (upd (upd H dx (exd dx [(f1, v1)])) a (exo a C (some dx))) dx (exd dx [(f2, v2), (f1, v1)]))
def spI0 : Sp := fun vs H Q _ => ∃ a : Addr, vs = [.ref a] ∧ Q .non H
section
variable {P : Program} {w : World} {K : PySem.W.Frag} {mg : Str → Option Value} {base : Heap}
theorem xb_mk {x qual : Str} {st : Stmt} {f : Addr} {fd : FuncData} {ps ks : List Str} {g : List Value → List Value → List Value} {gV : List V → List V → List V} (F : Fun K x qual st f fd)
    (rel : ∀ {vs : List V} {us : List Value} {zs : List V} {ws : List Value}, Vals vs us → Vals zs ws → Vals (gV vs zs) (g us ws))
    (h : ∀ (kV doc pm : Value) (an : Option Addr) (cdv ct : Value) (b : Value) (us ws : List Value), (b :: g us ws).length = ps.length →
      bindArgs (PySem.W.fnOf x qual (defArgs st) (defBody st) (defScope st) .none kV doc pm an cdv ct) ⟨b :: us, ks.zip ws⟩ = pure (ps.zip (b :: g us ws))) : XB K fd ps ks g gV := by
  obtain ⟨oc, od, kV, doc, pm, an, cdv, ct, osl, rfl, lk, hcd⟩ := F.ex
  exact ⟨fun s b us ws _ hl => .of_eq (h kV doc pm an cdv ct b us ws hl), rel⟩
theorem vals_rev : ∀ {xs : List V} {us : List Value}, Vals xs us → Vals xs.reverse us.reverse
  | _, _, .nil => .nil
  | _, _, .cons r t => by
    rw [List.reverse_cons, List.reverse_cons]
    exact (vals_rev t).append (.cons r .nil)
theorem made1 {H : Hp} {a dx C : Addr} {f : Str} {v : V} (n : H a = none) (nd : upd H a (exo a C none) dx = none) (ne : dx ≠ a) (T : XCl K C) :
    Same H (upd (upd (upd H a (exo a C none)) dx (exd dx [(f, v)])) a (exo a C (some dx))) ∧ XAt K (upd (upd (upd H a (exo a C none)) dx (exd dx [(f, v)])) a (exo a C (some dx))) a C [(f, v)] := by
  refine ⟨fun b o e => ?_, T, .inr ⟨dx, upd_same, (upd_ne ne).trans upd_same⟩⟩
  have na := ne_of_none e n
  rw [upd_ne na, upd_ne (ne_of_none ((upd_ne na).trans e) nd), upd_ne na]
  exact e
theorem made2 {H : Hp} {a dx C : Addr} {f1 f2 : Str} {v1 v2 : V} (n : H a = none) (nd : upd H a (exo a C none) dx = none) (ne : dx ≠ a) (T : XCl K C) :
    Same H (upd (upd (upd (upd H a (exo a C none)) dx (exd dx [(f1, v1)])) a (exo a C (some dx))) dx (exd dx [(f2, v2), (f1, v1)])) ∧
      XAt K (upd (upd (upd (upd H a (exo a C none)) dx (exd dx [(f1, v1)])) a (exo a C (some dx))) dx (exd dx [(f2, v2), (f1, v1)])) a C [(f2, v2), (f1, v1)] := by
  refine ⟨fun b o e => ?_, T, .inr ⟨dx, (upd_ne ne.symm).trans upd_same, upd_same⟩⟩
  have na := ne_of_none e n
  have nb := ne_of_none ((upd_ne na).trans e) nd
  rw [upd_ne nb, upd_ne na, upd_ne nb, upd_ne na]
  exact e
theorem made0 {H : Hp} {a C : Addr} (n : H a = none) (T : XCl K C) : Same H (upd H a (exo a C none)) ∧ XAt K (upd H a (exo a C none)) a C [] := ⟨same_upd n, T, .inl ⟨rfl, upd_same⟩⟩

theorem scI0 : FnScope ["self", "value"] ["self", "value"] (defScope sI0) := ⟨rfl, rfl, rfl, by decide +kernel, rfl, by decide +kernel, by decide +kernel⟩
theorem ok_I0 {fI C : Addr} {fd : FuncData} (F : Fun K "__init__" "InvalidName.__init__" sI0 fI fd) (T : XCl K C) (no : PySem.W.findIn K (.ref C) "value" = some none) : FnOk P w K mg base CX0 1 fI fd ["self", "value"] (spI1 C "value") := by
  refine F.ok scI0 (fun vs H Q E h => ?_) (fun cdv A outer s H vs Q E hr h => ?_)
  · obtain ⟨a, v, rfl, _⟩ := h
    rfl
  · obtain ⟨a, v, rfl, ha, q⟩ := h
    exact ⟨_, pss_one (ps_xs (pv 0) (pv 1)), v, rfl, .ref a, rfl, a, C, rfl, T, no, .inl ⟨ha, fun dx n ne => q dx n ne⟩⟩
theorem xp_I0 {fI : Addr} {fd : FuncData} (F : Fun K "__init__" "InvalidName.__init__" sI0 fI fd) : XB K fd ["self", "value"] [] (fun us _ => us) (fun vs _ => vs) :=
  xb_mk F (fun r _ => r) fun _ _ _ _ _ _ b us ws hl => match us, hl with | [_], _ => rfl
theorem xk_I0 {fI : Addr} {fd : FuncData} (F : Fun K "__init__" "InvalidName.__init__" sI0 fI fd) : XB K fd ["self", "value"] ["value"] (fun us ws => us ++ ws) (fun vs zs => vs ++ zs) :=
  xb_mk F (fun r z => r.append z) fun _ _ _ _ _ _ b us ws hl => match us, ws, hl with | [], [_], _ => rfl | [_], [], _ => rfl
theorem scI1 : FnScope ["self", "value"] ["self", "value"] (defScope sI1) := ⟨rfl, rfl, rfl, by decide +kernel, rfl, by decide +kernel, by decide +kernel⟩
theorem ok_I1 {fI C : Addr} {fd : FuncData} (F : Fun K "__init__" "InvalidWord.__init__" sI1 fI fd) (T : XCl K C) (no : PySem.W.findIn K (.ref C) "value" = some none) : FnOk P w K mg base CX0 1 fI fd ["self", "value"] (spI1 C "value") := by
  refine F.ok scI1 (fun vs H Q E h => ?_) (fun cdv A outer s H vs Q E hr h => ?_)
  · obtain ⟨a, v, rfl, _⟩ := h
    rfl
  · obtain ⟨a, v, rfl, ha, q⟩ := h
    exact ⟨_, pss_one (ps_xs (pv 0) (pv 1)), v, rfl, .ref a, rfl, a, C, rfl, T, no, .inl ⟨ha, fun dx n ne => q dx n ne⟩⟩
theorem xp_I1 {fI : Addr} {fd : FuncData} (F : Fun K "__init__" "InvalidWord.__init__" sI1 fI fd) : XB K fd ["self", "value"] [] (fun us _ => us) (fun vs _ => vs) :=
  xb_mk F (fun r _ => r) fun _ _ _ _ _ _ b us ws hl => match us, hl with | [_], _ => rfl
theorem xk_I1 {fI : Addr} {fd : FuncData} (F : Fun K "__init__" "InvalidWord.__init__" sI1 fI fd) : XB K fd ["self", "value"] ["value"] (fun us ws => us ++ ws) (fun vs zs => vs ++ zs) :=
  xb_mk F (fun r z => r.append z) fun _ _ _ _ _ _ b us ws hl => match us, ws, hl with | [], [_], _ => rfl | [_], [], _ => rfl
theorem scI2 : FnScope ["self", "reason", "value"] ["self", "reason", "value"] (defScope sI2) := ⟨rfl, rfl, rfl, by decide +kernel, rfl, by decide +kernel, by decide +kernel⟩
theorem ok_I2 {fI C : Addr} {fd : FuncData} (F : Fun K "__init__" "InvalidTree.__init__" sI2 fI fd) (T : XCl K C) (n1 : PySem.W.findIn K (.ref C) "reason" = some none) (n2 : PySem.W.findIn K (.ref C) "value" = some none) : FnOk P w K mg base CX0 1 fI fd ["self", "reason", "value"] (spI2 C "reason" "value") := by
  refine F.ok scI2 (fun vs H Q E h => ?_) (fun cdv A outer s H vs Q E hr h => ?_)
  · obtain ⟨a, v1, v2, rfl, _⟩ := h
    rfl
  · obtain ⟨a, v1, v2, rfl, ha, q⟩ := h
    exact ⟨_, pss_cons (ps_xs (pv 0) (pv 1)) (pss_one (ps_xs (pv 0) (pv 2))), v1, rfl, .ref a, rfl, a, C, rfl, T, n1, .inl ⟨ha, fun dx n ne => ⟨v2, rfl, .ref a, rfl, a, C, rfl, T, n2, .inr ⟨dx, _, upd_same, (upd_ne ne).trans upd_same, (by show 1 ≤ 900; decide), q dx n ne⟩⟩⟩⟩
theorem xp_I2 {fI : Addr} {fd : FuncData} (F : Fun K "__init__" "InvalidTree.__init__" sI2 fI fd) : XB K fd ["self", "reason", "value"] [] (fun us _ => us) (fun vs _ => vs) :=
  xb_mk F (fun r _ => r) fun _ _ _ _ _ _ b us ws hl => match us, hl with | [_, _], _ => rfl
theorem xk_I2 {fI : Addr} {fd : FuncData} (F : Fun K "__init__" "InvalidTree.__init__" sI2 fI fd) : XB K fd ["self", "reason", "value"] ["value", "reason"] (fun us ws => us ++ ws.reverse) (fun vs zs => vs ++ zs.reverse) :=
  xb_mk F (fun r z => r.append (vals_rev z)) fun _ _ _ _ _ _ b us ws hl => by
    rcases us with _ | ⟨u, _ | ⟨u2, _ | ⟨u3, us⟩⟩⟩ <;> rcases ws with _ | ⟨w1, _ | ⟨w2, _ | ⟨w3, ws⟩⟩⟩ <;> first | rfl | (exfalso; simp at hl; done) | (exfalso; simp at hl; omega)
theorem scI3 : FnScope ["self", "value"] ["self", "value"] (defScope sI3) := ⟨rfl, rfl, rfl, by decide +kernel, rfl, by decide +kernel, by decide +kernel⟩
theorem ok_I3 {fI C : Addr} {fd : FuncData} (F : Fun K "__init__" "InvalidRelink.__init__" sI3 fI fd) (T : XCl K C) (no : PySem.W.findIn K (.ref C) "value" = some none) : FnOk P w K mg base CX0 1 fI fd ["self", "value"] (spI1 C "value") := by
  refine F.ok scI3 (fun vs H Q E h => ?_) (fun cdv A outer s H vs Q E hr h => ?_)
  · obtain ⟨a, v, rfl, _⟩ := h
    rfl
  · obtain ⟨a, v, rfl, ha, q⟩ := h
    exact ⟨_, pss_one (ps_xs (pv 0) (pv 1)), v, rfl, .ref a, rfl, a, C, rfl, T, no, .inl ⟨ha, fun dx n ne => q dx n ne⟩⟩
theorem xp_I3 {fI : Addr} {fd : FuncData} (F : Fun K "__init__" "InvalidRelink.__init__" sI3 fI fd) : XB K fd ["self", "value"] [] (fun us _ => us) (fun vs _ => vs) :=
  xb_mk F (fun r _ => r) fun _ _ _ _ _ _ b us ws hl => match us, hl with | [_], _ => rfl
theorem xk_I3 {fI : Addr} {fd : FuncData} (F : Fun K "__init__" "InvalidRelink.__init__" sI3 fI fd) : XB K fd ["self", "value"] ["value"] (fun us ws => us ++ ws) (fun vs zs => vs ++ zs) :=
  xb_mk F (fun r z => r.append z) fun _ _ _ _ _ _ b us ws hl => match us, ws, hl with | [], [_], _ => rfl | [_], [], _ => rfl
theorem scI4 : FnScope ["self", "value"] ["self", "value"] (defScope sI4) := ⟨rfl, rfl, rfl, by decide +kernel, rfl, by decide +kernel, by decide +kernel⟩
theorem ok_I4 {fI C : Addr} {fd : FuncData} (F : Fun K "__init__" "InvalidItem.__init__" sI4 fI fd) (T : XCl K C) (no : PySem.W.findIn K (.ref C) "value" = some none) : FnOk P w K mg base CX0 1 fI fd ["self", "value"] (spI1 C "value") := by
  refine F.ok scI4 (fun vs H Q E h => ?_) (fun cdv A outer s H vs Q E hr h => ?_)
  · obtain ⟨a, v, rfl, _⟩ := h
    rfl
  · obtain ⟨a, v, rfl, ha, q⟩ := h
    exact ⟨_, pss_one (ps_xs (pv 0) (pv 1)), v, rfl, .ref a, rfl, a, C, rfl, T, no, .inl ⟨ha, fun dx n ne => q dx n ne⟩⟩
theorem xp_I4 {fI : Addr} {fd : FuncData} (F : Fun K "__init__" "InvalidItem.__init__" sI4 fI fd) : XB K fd ["self", "value"] [] (fun us _ => us) (fun vs _ => vs) :=
  xb_mk F (fun r _ => r) fun _ _ _ _ _ _ b us ws hl => match us, hl with | [_], _ => rfl
theorem xk_I4 {fI : Addr} {fd : FuncData} (F : Fun K "__init__" "InvalidItem.__init__" sI4 fI fd) : XB K fd ["self", "value"] ["value"] (fun us ws => us ++ ws) (fun vs zs => vs ++ zs) :=
  xb_mk F (fun r z => r.append z) fun _ _ _ _ _ _ b us ws hl => match us, ws, hl with | [], [_], _ => rfl | [_], [], _ => rfl
theorem scI5 : FnScope ["self", "host", "kind"] ["self", "host", "kind"] (defScope sI5) := ⟨rfl, rfl, rfl, by decide +kernel, rfl, by decide +kernel, by decide +kernel⟩
theorem ok_I5 {fI C : Addr} {fd : FuncData} (F : Fun K "__init__" "InvalidStep.__init__" sI5 fI fd) (T : XCl K C) (n1 : PySem.W.findIn K (.ref C) "host" = some none) (n2 : PySem.W.findIn K (.ref C) "kind" = some none) : FnOk P w K mg base CX0 1 fI fd ["self", "host", "kind"] (spI2 C "host" "kind") := by
  refine F.ok scI5 (fun vs H Q E h => ?_) (fun cdv A outer s H vs Q E hr h => ?_)
  · obtain ⟨a, v1, v2, rfl, _⟩ := h
    rfl
  · obtain ⟨a, v1, v2, rfl, ha, q⟩ := h
    exact ⟨_, pss_cons (ps_xs (pv 0) (pv 1)) (pss_one (ps_xs (pv 0) (pv 2))), v1, rfl, .ref a, rfl, a, C, rfl, T, n1, .inl ⟨ha, fun dx n ne => ⟨v2, rfl, .ref a, rfl, a, C, rfl, T, n2, .inr ⟨dx, _, upd_same, (upd_ne ne).trans upd_same, (by show 1 ≤ 900; decide), q dx n ne⟩⟩⟩⟩
theorem xp_I5 {fI : Addr} {fd : FuncData} (F : Fun K "__init__" "InvalidStep.__init__" sI5 fI fd) : XB K fd ["self", "host", "kind"] [] (fun us _ => us) (fun vs _ => vs) :=
  xb_mk F (fun r _ => r) fun _ _ _ _ _ _ b us ws hl => match us, hl with | [_, _], _ => rfl
theorem xk_I5 {fI : Addr} {fd : FuncData} (F : Fun K "__init__" "InvalidStep.__init__" sI5 fI fd) : XB K fd ["self", "host", "kind"] ["kind", "host"] (fun us ws => us ++ ws.reverse) (fun vs zs => vs ++ zs.reverse) :=
  xb_mk F (fun r z => r.append (vals_rev z)) fun _ _ _ _ _ _ b us ws hl => by
    rcases us with _ | ⟨u, _ | ⟨u2, _ | ⟨u3, us⟩⟩⟩ <;> rcases ws with _ | ⟨w1, _ | ⟨w2, _ | ⟨w3, ws⟩⟩⟩ <;> first | rfl | (exfalso; simp at hl; done) | (exfalso; simp at hl; omega)
theorem scI6 : FnScope ["self", "value"] ["self", "value"] (defScope sI6) := ⟨rfl, rfl, rfl, by decide +kernel, rfl, by decide +kernel, by decide +kernel⟩
theorem ok_I6 {fI C : Addr} {fd : FuncData} (F : Fun K "__init__" "InvalidEvent.__init__" sI6 fI fd) (T : XCl K C) (no : PySem.W.findIn K (.ref C) "value" = some none) : FnOk P w K mg base CX0 1 fI fd ["self", "value"] (spI1 C "value") := by
  refine F.ok scI6 (fun vs H Q E h => ?_) (fun cdv A outer s H vs Q E hr h => ?_)
  · obtain ⟨a, v, rfl, _⟩ := h
    rfl
  · obtain ⟨a, v, rfl, ha, q⟩ := h
    exact ⟨_, pss_one (ps_xs (pv 0) (pv 1)), v, rfl, .ref a, rfl, a, C, rfl, T, no, .inl ⟨ha, fun dx n ne => q dx n ne⟩⟩
theorem xp_I6 {fI : Addr} {fd : FuncData} (F : Fun K "__init__" "InvalidEvent.__init__" sI6 fI fd) : XB K fd ["self", "value"] [] (fun us _ => us) (fun vs _ => vs) :=
  xb_mk F (fun r _ => r) fun _ _ _ _ _ _ b us ws hl => match us, hl with | [_], _ => rfl
theorem xk_I6 {fI : Addr} {fd : FuncData} (F : Fun K "__init__" "InvalidEvent.__init__" sI6 fI fd) : XB K fd ["self", "value"] ["value"] (fun us ws => us ++ ws) (fun vs zs => vs ++ zs) :=
  xb_mk F (fun r z => r.append z) fun _ _ _ _ _ _ b us ws hl => match us, ws, hl with | [], [_], _ => rfl | [_], [], _ => rfl
theorem scI7 : FnScope ["self", "value"] ["self", "value"] (defScope sI7) := ⟨rfl, rfl, rfl, by decide +kernel, rfl, by decide +kernel, by decide +kernel⟩
theorem ok_I7 {fI C : Addr} {fd : FuncData} (F : Fun K "__init__" "InvalidChoice.__init__" sI7 fI fd) (T : XCl K C) (no : PySem.W.findIn K (.ref C) "value" = some none) : FnOk P w K mg base CX0 1 fI fd ["self", "value"] (spI1 C "value") := by
  refine F.ok scI7 (fun vs H Q E h => ?_) (fun cdv A outer s H vs Q E hr h => ?_)
  · obtain ⟨a, v, rfl, _⟩ := h
    rfl
  · obtain ⟨a, v, rfl, ha, q⟩ := h
    exact ⟨_, pss_one (ps_xs (pv 0) (pv 1)), v, rfl, .ref a, rfl, a, C, rfl, T, no, .inl ⟨ha, fun dx n ne => q dx n ne⟩⟩
theorem xp_I7 {fI : Addr} {fd : FuncData} (F : Fun K "__init__" "InvalidChoice.__init__" sI7 fI fd) : XB K fd ["self", "value"] [] (fun us _ => us) (fun vs _ => vs) :=
  xb_mk F (fun r _ => r) fun _ _ _ _ _ _ b us ws hl => match us, hl with | [_], _ => rfl
theorem xk_I7 {fI : Addr} {fd : FuncData} (F : Fun K "__init__" "InvalidChoice.__init__" sI7 fI fd) : XB K fd ["self", "value"] ["value"] (fun us ws => us ++ ws) (fun vs zs => vs ++ zs) :=
  xb_mk F (fun r z => r.append z) fun _ _ _ _ _ _ b us ws hl => match us, ws, hl with | [], [_], _ => rfl | [_], [], _ => rfl
theorem scI8 : FnScope ["self", "value"] ["self", "value"] (defScope sI8) := ⟨rfl, rfl, rfl, by decide +kernel, rfl, by decide +kernel, by decide +kernel⟩
theorem ok_I8 {fI C : Addr} {fd : FuncData} (F : Fun K "__init__" "InvalidScript.__init__" sI8 fI fd) (T : XCl K C) (no : PySem.W.findIn K (.ref C) "value" = some none) : FnOk P w K mg base CX0 1 fI fd ["self", "value"] (spI1 C "value") := by
  refine F.ok scI8 (fun vs H Q E h => ?_) (fun cdv A outer s H vs Q E hr h => ?_)
  · obtain ⟨a, v, rfl, _⟩ := h
    rfl
  · obtain ⟨a, v, rfl, ha, q⟩ := h
    exact ⟨_, pss_one (ps_xs (pv 0) (pv 1)), v, rfl, .ref a, rfl, a, C, rfl, T, no, .inl ⟨ha, fun dx n ne => q dx n ne⟩⟩
theorem xp_I8 {fI : Addr} {fd : FuncData} (F : Fun K "__init__" "InvalidScript.__init__" sI8 fI fd) : XB K fd ["self", "value"] [] (fun us _ => us) (fun vs _ => vs) :=
  xb_mk F (fun r _ => r) fun _ _ _ _ _ _ b us ws hl => match us, hl with | [_], _ => rfl
theorem xk_I8 {fI : Addr} {fd : FuncData} (F : Fun K "__init__" "InvalidScript.__init__" sI8 fI fd) : XB K fd ["self", "value"] ["value"] (fun us ws => us ++ ws) (fun vs zs => vs ++ zs) :=
  xb_mk F (fun r z => r.append z) fun _ _ _ _ _ _ b us ws hl => match us, ws, hl with | [], [_], _ => rfl | [_], [], _ => rfl
theorem scI9 : FnScope ["self", "index"] ["self", "index"] (defScope sI9) := ⟨rfl, rfl, rfl, by decide +kernel, rfl, by decide +kernel, by decide +kernel⟩
theorem ok_I9 {fI C : Addr} {fd : FuncData} (F : Fun K "__init__" "InvalidPlan.__init__" sI9 fI fd) (T : XCl K C) (no : PySem.W.findIn K (.ref C) "index" = some none) : FnOk P w K mg base CX0 1 fI fd ["self", "index"] (spI1 C "index") := by
  refine F.ok scI9 (fun vs H Q E h => ?_) (fun cdv A outer s H vs Q E hr h => ?_)
  · obtain ⟨a, v, rfl, _⟩ := h
    rfl
  · obtain ⟨a, v, rfl, ha, q⟩ := h
    exact ⟨_, pss_one (ps_xs (pv 0) (pv 1)), v, rfl, .ref a, rfl, a, C, rfl, T, no, .inl ⟨ha, fun dx n ne => q dx n ne⟩⟩
theorem xp_I9 {fI : Addr} {fd : FuncData} (F : Fun K "__init__" "InvalidPlan.__init__" sI9 fI fd) : XB K fd ["self", "index"] [] (fun us _ => us) (fun vs _ => vs) :=
  xb_mk F (fun r _ => r) fun _ _ _ _ _ _ b us ws hl => match us, hl with | [_], _ => rfl
theorem xk_I9 {fI : Addr} {fd : FuncData} (F : Fun K "__init__" "InvalidPlan.__init__" sI9 fI fd) : XB K fd ["self", "index"] ["index"] (fun us ws => us ++ ws) (fun vs zs => vs ++ zs) :=
  xb_mk F (fun r z => r.append z) fun _ _ _ _ _ _ b us ws hl => match us, ws, hl with | [], [_], _ => rfl | [_], [], _ => rfl
theorem scI10 : FnScope ["self", "value"] ["self", "value"] (defScope sI10) := ⟨rfl, rfl, rfl, by decide +kernel, rfl, by decide +kernel, by decide +kernel⟩
theorem ok_I10 {fI C : Addr} {fd : FuncData} (F : Fun K "__init__" "InvalidText.__init__" sI10 fI fd) (T : XCl K C) (no : PySem.W.findIn K (.ref C) "value" = some none) : FnOk P w K mg base CX0 1 fI fd ["self", "value"] (spI1 C "value") := by
  refine F.ok scI10 (fun vs H Q E h => ?_) (fun cdv A outer s H vs Q E hr h => ?_)
  · obtain ⟨a, v, rfl, _⟩ := h
    rfl
  · obtain ⟨a, v, rfl, ha, q⟩ := h
    exact ⟨_, pss_one (ps_xs (pv 0) (pv 1)), v, rfl, .ref a, rfl, a, C, rfl, T, no, .inl ⟨ha, fun dx n ne => q dx n ne⟩⟩
theorem xp_I10 {fI : Addr} {fd : FuncData} (F : Fun K "__init__" "InvalidText.__init__" sI10 fI fd) : XB K fd ["self", "value"] [] (fun us _ => us) (fun vs _ => vs) :=
  xb_mk F (fun r _ => r) fun _ _ _ _ _ _ b us ws hl => match us, hl with | [_], _ => rfl
theorem xk_I10 {fI : Addr} {fd : FuncData} (F : Fun K "__init__" "InvalidText.__init__" sI10 fI fd) : XB K fd ["self", "value"] ["value"] (fun us ws => us ++ ws) (fun vs zs => vs ++ zs) :=
  xb_mk F (fun r z => r.append z) fun _ _ _ _ _ _ b us ws hl => match us, ws, hl with | [], [_], _ => rfl | [_], [], _ => rfl
theorem scI11 : FnScope ["self", "line"] ["self", "line"] (defScope sI11) := ⟨rfl, rfl, rfl, by decide +kernel, rfl, by decide +kernel, by decide +kernel⟩
theorem ok_I11 {fI C : Addr} {fd : FuncData} (F : Fun K "__init__" "InvalidLine.__init__" sI11 fI fd) (T : XCl K C) (no : PySem.W.findIn K (.ref C) "line" = some none) : FnOk P w K mg base CX0 1 fI fd ["self", "line"] (spI1 C "line") := by
  refine F.ok scI11 (fun vs H Q E h => ?_) (fun cdv A outer s H vs Q E hr h => ?_)
  · obtain ⟨a, v, rfl, _⟩ := h
    rfl
  · obtain ⟨a, v, rfl, ha, q⟩ := h
    exact ⟨_, pss_one (ps_xs (pv 0) (pv 1)), v, rfl, .ref a, rfl, a, C, rfl, T, no, .inl ⟨ha, fun dx n ne => q dx n ne⟩⟩
theorem xp_I11 {fI : Addr} {fd : FuncData} (F : Fun K "__init__" "InvalidLine.__init__" sI11 fI fd) : XB K fd ["self", "line"] [] (fun us _ => us) (fun vs _ => vs) :=
  xb_mk F (fun r _ => r) fun _ _ _ _ _ _ b us ws hl => match us, hl with | [_], _ => rfl
theorem xk_I11 {fI : Addr} {fd : FuncData} (F : Fun K "__init__" "InvalidLine.__init__" sI11 fI fd) : XB K fd ["self", "line"] ["line"] (fun us ws => us ++ ws) (fun vs zs => vs ++ zs) :=
  xb_mk F (fun r z => r.append z) fun _ _ _ _ _ _ b us ws hl => match us, ws, hl with | [], [_], _ => rfl | [_], [], _ => rfl
theorem scI12 : FnScope ["self", "value"] ["self", "value"] (defScope sI12) := ⟨rfl, rfl, rfl, by decide +kernel, rfl, by decide +kernel, by decide +kernel⟩
theorem ok_I12 {fI C : Addr} {fd : FuncData} (F : Fun K "__init__" "InvalidCommand.__init__" sI12 fI fd) (T : XCl K C) (no : PySem.W.findIn K (.ref C) "value" = some none) : FnOk P w K mg base CX0 1 fI fd ["self", "value"] (spI1 C "value") := by
  refine F.ok scI12 (fun vs H Q E h => ?_) (fun cdv A outer s H vs Q E hr h => ?_)
  · obtain ⟨a, v, rfl, _⟩ := h
    rfl
  · obtain ⟨a, v, rfl, ha, q⟩ := h
    exact ⟨_, pss_one (ps_xs (pv 0) (pv 1)), v, rfl, .ref a, rfl, a, C, rfl, T, no, .inl ⟨ha, fun dx n ne => q dx n ne⟩⟩
theorem xp_I12 {fI : Addr} {fd : FuncData} (F : Fun K "__init__" "InvalidCommand.__init__" sI12 fI fd) : XB K fd ["self", "value"] [] (fun us _ => us) (fun vs _ => vs) :=
  xb_mk F (fun r _ => r) fun _ _ _ _ _ _ b us ws hl => match us, hl with | [_], _ => rfl
theorem xk_I12 {fI : Addr} {fd : FuncData} (F : Fun K "__init__" "InvalidCommand.__init__" sI12 fI fd) : XB K fd ["self", "value"] ["value"] (fun us ws => us ++ ws) (fun vs zs => vs ++ zs) :=
  xb_mk F (fun r z => r.append z) fun _ _ _ _ _ _ b us ws hl => match us, ws, hl with | [], [_], _ => rfl | [_], [], _ => rfl
theorem scI13 : FnScope ["self", "host"] ["self", "host"] (defScope sI13) := ⟨rfl, rfl, rfl, by decide +kernel, rfl, by decide +kernel, by decide +kernel⟩
theorem ok_I13 {fI C : Addr} {fd : FuncData} (F : Fun K "__init__" "UnknownHost.__init__" sI13 fI fd) (T : XCl K C) (no : PySem.W.findIn K (.ref C) "host" = some none) : FnOk P w K mg base CX0 1 fI fd ["self", "host"] (spI1 C "host") := by
  refine F.ok scI13 (fun vs H Q E h => ?_) (fun cdv A outer s H vs Q E hr h => ?_)
  · obtain ⟨a, v, rfl, _⟩ := h
    rfl
  · obtain ⟨a, v, rfl, ha, q⟩ := h
    exact ⟨_, pss_one (ps_xs (pv 0) (pv 1)), v, rfl, .ref a, rfl, a, C, rfl, T, no, .inl ⟨ha, fun dx n ne => q dx n ne⟩⟩
theorem xp_I13 {fI : Addr} {fd : FuncData} (F : Fun K "__init__" "UnknownHost.__init__" sI13 fI fd) : XB K fd ["self", "host"] [] (fun us _ => us) (fun vs _ => vs) :=
  xb_mk F (fun r _ => r) fun _ _ _ _ _ _ b us ws hl => match us, hl with | [_], _ => rfl
theorem xk_I13 {fI : Addr} {fd : FuncData} (F : Fun K "__init__" "UnknownHost.__init__" sI13 fI fd) : XB K fd ["self", "host"] ["host"] (fun us ws => us ++ ws) (fun vs zs => vs ++ zs) :=
  xb_mk F (fun r z => r.append z) fun _ _ _ _ _ _ b us ws hl => match us, ws, hl with | [], [_], _ => rfl | [_], [], _ => rfl
theorem scI14 : FnScope ["self", "source", "goal"] ["self", "source", "goal"] (defScope sI14) := ⟨rfl, rfl, rfl, by decide +kernel, rfl, by decide +kernel, by decide +kernel⟩
theorem ok_I14 {fI C : Addr} {fd : FuncData} (F : Fun K "__init__" "EmptyChannel.__init__" sI14 fI fd) (T : XCl K C) (n1 : PySem.W.findIn K (.ref C) "source" = some none) (n2 : PySem.W.findIn K (.ref C) "goal" = some none) : FnOk P w K mg base CX0 1 fI fd ["self", "source", "goal"] (spI2 C "source" "goal") := by
  refine F.ok scI14 (fun vs H Q E h => ?_) (fun cdv A outer s H vs Q E hr h => ?_)
  · obtain ⟨a, v1, v2, rfl, _⟩ := h
    rfl
  · obtain ⟨a, v1, v2, rfl, ha, q⟩ := h
    exact ⟨_, pss_cons (ps_xs (pv 0) (pv 1)) (pss_one (ps_xs (pv 0) (pv 2))), v1, rfl, .ref a, rfl, a, C, rfl, T, n1, .inl ⟨ha, fun dx n ne => ⟨v2, rfl, .ref a, rfl, a, C, rfl, T, n2, .inr ⟨dx, _, upd_same, (upd_ne ne).trans upd_same, (by show 1 ≤ 900; decide), q dx n ne⟩⟩⟩⟩
theorem xp_I14 {fI : Addr} {fd : FuncData} (F : Fun K "__init__" "EmptyChannel.__init__" sI14 fI fd) : XB K fd ["self", "source", "goal"] [] (fun us _ => us) (fun vs _ => vs) :=
  xb_mk F (fun r _ => r) fun _ _ _ _ _ _ b us ws hl => match us, hl with | [_, _], _ => rfl
theorem xk_I14 {fI : Addr} {fd : FuncData} (F : Fun K "__init__" "EmptyChannel.__init__" sI14 fI fd) : XB K fd ["self", "source", "goal"] ["goal", "source"] (fun us ws => us ++ ws.reverse) (fun vs zs => vs ++ zs.reverse) :=
  xb_mk F (fun r z => r.append (vals_rev z)) fun _ _ _ _ _ _ b us ws hl => by
    rcases us with _ | ⟨u, _ | ⟨u2, _ | ⟨u3, us⟩⟩⟩ <;> rcases ws with _ | ⟨w1, _ | ⟨w2, _ | ⟨w3, ws⟩⟩⟩ <;> first | rfl | (exfalso; simp at hl; done) | (exfalso; simp at hl; omega)
theorem scI15 : FnScope ["self", "host"] ["self", "host"] (defScope sI15) := ⟨rfl, rfl, rfl, by decide +kernel, rfl, by decide +kernel, by decide +kernel⟩
theorem ok_I15 {fI C : Addr} {fd : FuncData} (F : Fun K "__init__" "Busy.__init__" sI15 fI fd) (T : XCl K C) (no : PySem.W.findIn K (.ref C) "host" = some none) : FnOk P w K mg base CX0 1 fI fd ["self", "host"] (spI1 C "host") := by
  refine F.ok scI15 (fun vs H Q E h => ?_) (fun cdv A outer s H vs Q E hr h => ?_)
  · obtain ⟨a, v, rfl, _⟩ := h
    rfl
  · obtain ⟨a, v, rfl, ha, q⟩ := h
    exact ⟨_, pss_one (ps_xs (pv 0) (pv 1)), v, rfl, .ref a, rfl, a, C, rfl, T, no, .inl ⟨ha, fun dx n ne => q dx n ne⟩⟩
theorem xp_I15 {fI : Addr} {fd : FuncData} (F : Fun K "__init__" "Busy.__init__" sI15 fI fd) : XB K fd ["self", "host"] [] (fun us _ => us) (fun vs _ => vs) :=
  xb_mk F (fun r _ => r) fun _ _ _ _ _ _ b us ws hl => match us, hl with | [_], _ => rfl
theorem xk_I15 {fI : Addr} {fd : FuncData} (F : Fun K "__init__" "Busy.__init__" sI15 fI fd) : XB K fd ["self", "host"] ["host"] (fun us ws => us ++ ws) (fun vs zs => vs ++ zs) :=
  xb_mk F (fun r z => r.append z) fun _ _ _ _ _ _ b us ws hl => match us, ws, hl with | [], [_], _ => rfl | [_], [], _ => rfl
theorem scI16 : FnScope ["self", "host", "other"] ["self", "host", "other"] (defScope sI16) := ⟨rfl, rfl, rfl, by decide +kernel, rfl, by decide +kernel, by decide +kernel⟩
theorem ok_I16 {fI C : Addr} {fd : FuncData} (F : Fun K "__init__" "NotLinked.__init__" sI16 fI fd) (T : XCl K C) (n1 : PySem.W.findIn K (.ref C) "host" = some none) (n2 : PySem.W.findIn K (.ref C) "other" = some none) : FnOk P w K mg base CX0 1 fI fd ["self", "host", "other"] (spI2 C "host" "other") := by
  refine F.ok scI16 (fun vs H Q E h => ?_) (fun cdv A outer s H vs Q E hr h => ?_)
  · obtain ⟨a, v1, v2, rfl, _⟩ := h
    rfl
  · obtain ⟨a, v1, v2, rfl, ha, q⟩ := h
    exact ⟨_, pss_cons (ps_xs (pv 0) (pv 1)) (pss_one (ps_xs (pv 0) (pv 2))), v1, rfl, .ref a, rfl, a, C, rfl, T, n1, .inl ⟨ha, fun dx n ne => ⟨v2, rfl, .ref a, rfl, a, C, rfl, T, n2, .inr ⟨dx, _, upd_same, (upd_ne ne).trans upd_same, (by show 1 ≤ 900; decide), q dx n ne⟩⟩⟩⟩
theorem xp_I16 {fI : Addr} {fd : FuncData} (F : Fun K "__init__" "NotLinked.__init__" sI16 fI fd) : XB K fd ["self", "host", "other"] [] (fun us _ => us) (fun vs _ => vs) :=
  xb_mk F (fun r _ => r) fun _ _ _ _ _ _ b us ws hl => match us, hl with | [_, _], _ => rfl
theorem xk_I16 {fI : Addr} {fd : FuncData} (F : Fun K "__init__" "NotLinked.__init__" sI16 fI fd) : XB K fd ["self", "host", "other"] ["other", "host"] (fun us ws => us ++ ws.reverse) (fun vs zs => vs ++ zs.reverse) :=
  xb_mk F (fun r z => r.append (vals_rev z)) fun _ _ _ _ _ _ b us ws hl => by
    rcases us with _ | ⟨u, _ | ⟨u2, _ | ⟨u3, us⟩⟩⟩ <;> rcases ws with _ | ⟨w1, _ | ⟨w2, _ | ⟨w3, ws⟩⟩⟩ <;> first | rfl | (exfalso; simp at hl; done) | (exfalso; simp at hl; omega)
theorem scI17 : FnScope ["self", "host"] ["self", "host"] (defScope sI17) := ⟨rfl, rfl, rfl, by decide +kernel, rfl, by decide +kernel, by decide +kernel⟩
theorem ok_I17 {fI C : Addr} {fd : FuncData} (F : Fun K "__init__" "NotALeaf.__init__" sI17 fI fd) (T : XCl K C) (no : PySem.W.findIn K (.ref C) "host" = some none) : FnOk P w K mg base CX0 1 fI fd ["self", "host"] (spI1 C "host") := by
  refine F.ok scI17 (fun vs H Q E h => ?_) (fun cdv A outer s H vs Q E hr h => ?_)
  · obtain ⟨a, v, rfl, _⟩ := h
    rfl
  · obtain ⟨a, v, rfl, ha, q⟩ := h
    exact ⟨_, pss_one (ps_xs (pv 0) (pv 1)), v, rfl, .ref a, rfl, a, C, rfl, T, no, .inl ⟨ha, fun dx n ne => q dx n ne⟩⟩
theorem xp_I17 {fI : Addr} {fd : FuncData} (F : Fun K "__init__" "NotALeaf.__init__" sI17 fI fd) : XB K fd ["self", "host"] [] (fun us _ => us) (fun vs _ => vs) :=
  xb_mk F (fun r _ => r) fun _ _ _ _ _ _ b us ws hl => match us, hl with | [_], _ => rfl
theorem xk_I17 {fI : Addr} {fd : FuncData} (F : Fun K "__init__" "NotALeaf.__init__" sI17 fI fd) : XB K fd ["self", "host"] ["host"] (fun us ws => us ++ ws) (fun vs zs => vs ++ zs) :=
  xb_mk F (fun r z => r.append z) fun _ _ _ _ _ _ b us ws hl => match us, ws, hl with | [], [_], _ => rfl | [_], [], _ => rfl
theorem scI18 : FnScope ["self", "value"] ["self", "value"] (defScope sI18) := ⟨rfl, rfl, rfl, by decide +kernel, rfl, by decide +kernel, by decide +kernel⟩
theorem ok_I18 {fI C : Addr} {fd : FuncData} (F : Fun K "__init__" "NameTaken.__init__" sI18 fI fd) (T : XCl K C) (no : PySem.W.findIn K (.ref C) "value" = some none) : FnOk P w K mg base CX0 1 fI fd ["self", "value"] (spI1 C "value") := by
  refine F.ok scI18 (fun vs H Q E h => ?_) (fun cdv A outer s H vs Q E hr h => ?_)
  · obtain ⟨a, v, rfl, _⟩ := h
    rfl
  · obtain ⟨a, v, rfl, ha, q⟩ := h
    exact ⟨_, pss_one (ps_xs (pv 0) (pv 1)), v, rfl, .ref a, rfl, a, C, rfl, T, no, .inl ⟨ha, fun dx n ne => q dx n ne⟩⟩
theorem xp_I18 {fI : Addr} {fd : FuncData} (F : Fun K "__init__" "NameTaken.__init__" sI18 fI fd) : XB K fd ["self", "value"] [] (fun us _ => us) (fun vs _ => vs) :=
  xb_mk F (fun r _ => r) fun _ _ _ _ _ _ b us ws hl => match us, hl with | [_], _ => rfl
theorem xk_I18 {fI : Addr} {fd : FuncData} (F : Fun K "__init__" "NameTaken.__init__" sI18 fI fd) : XB K fd ["self", "value"] ["value"] (fun us ws => us ++ ws) (fun vs zs => vs ++ zs) :=
  xb_mk F (fun r z => r.append z) fun _ _ _ _ _ _ b us ws hl => match us, ws, hl with | [], [_], _ => rfl | [_], [], _ => rfl
theorem scI19 : FnScope ["self", "channels"] ["self", "channels"] (defScope sI19) := ⟨rfl, rfl, rfl, by decide +kernel, rfl, by decide +kernel, by decide +kernel⟩
theorem ok_I19 {fI C : Addr} {fd : FuncData} (F : Fun K "__init__" "NotAtRest.__init__" sI19 fI fd) (T : XCl K C) (no : PySem.W.findIn K (.ref C) "channels" = some none) : FnOk P w K mg base CX0 1 fI fd ["self", "channels"] (spI1 C "channels") := by
  refine F.ok scI19 (fun vs H Q E h => ?_) (fun cdv A outer s H vs Q E hr h => ?_)
  · obtain ⟨a, v, rfl, _⟩ := h
    rfl
  · obtain ⟨a, v, rfl, ha, q⟩ := h
    exact ⟨_, pss_one (ps_xs (pv 0) (pv 1)), v, rfl, .ref a, rfl, a, C, rfl, T, no, .inl ⟨ha, fun dx n ne => q dx n ne⟩⟩
theorem xp_I19 {fI : Addr} {fd : FuncData} (F : Fun K "__init__" "NotAtRest.__init__" sI19 fI fd) : XB K fd ["self", "channels"] [] (fun us _ => us) (fun vs _ => vs) :=
  xb_mk F (fun r _ => r) fun _ _ _ _ _ _ b us ws hl => match us, hl with | [_], _ => rfl
theorem xk_I19 {fI : Addr} {fd : FuncData} (F : Fun K "__init__" "NotAtRest.__init__" sI19 fI fd) : XB K fd ["self", "channels"] ["channels"] (fun us ws => us ++ ws) (fun vs zs => vs ++ zs) :=
  xb_mk F (fun r z => r.append z) fun _ _ _ _ _ _ b us ws hl => match us, ws, hl with | [], [_], _ => rfl | [_], [], _ => rfl
theorem scI20 : FnScope ["self"] ["self"] (defScope sI20) := ⟨rfl, rfl, rfl, by decide +kernel, rfl, by decide +kernel, by decide +kernel⟩
theorem ok_I20 {fI : Addr} {fd : FuncData} (F : Fun K "__init__" "NoNetwork.__init__" sI20 fI fd) : FnOk P w K mg base CX0 1 fI fd ["self"] spI0 := by
  refine F.ok scI20 (fun vs H Q E h => ?_) (fun cdv A outer s H vs Q E hr h => ?_)
  · obtain ⟨a, rfl, _⟩ := h
    rfl
  · obtain ⟨a, rfl, q⟩ := h
    exact ⟨_, pss_one ps_pass, q⟩
theorem xp_I20 {fI : Addr} {fd : FuncData} (F : Fun K "__init__" "NoNetwork.__init__" sI20 fI fd) : XB K fd ["self"] [] (fun us _ => us) (fun vs _ => vs) :=
  xb_mk F (fun r _ => r) fun _ _ _ _ _ _ b us ws hl => match us, hl with | [], _ => rfl
theorem scI21 : FnScope ["self", "limit"] ["self", "limit"] (defScope sI21) := ⟨rfl, rfl, rfl, by decide +kernel, rfl, by decide +kernel, by decide +kernel⟩
theorem ok_I21 {fI C : Addr} {fd : FuncData} (F : Fun K "__init__" "TooMany.__init__" sI21 fI fd) (T : XCl K C) (no : PySem.W.findIn K (.ref C) "limit" = some none) : FnOk P w K mg base CX0 1 fI fd ["self", "limit"] (spI1 C "limit") := by
  refine F.ok scI21 (fun vs H Q E h => ?_) (fun cdv A outer s H vs Q E hr h => ?_)
  · obtain ⟨a, v, rfl, _⟩ := h
    rfl
  · obtain ⟨a, v, rfl, ha, q⟩ := h
    exact ⟨_, pss_one (ps_xs (pv 0) (pv 1)), v, rfl, .ref a, rfl, a, C, rfl, T, no, .inl ⟨ha, fun dx n ne => q dx n ne⟩⟩
theorem xp_I21 {fI : Addr} {fd : FuncData} (F : Fun K "__init__" "TooMany.__init__" sI21 fI fd) : XB K fd ["self", "limit"] [] (fun us _ => us) (fun vs _ => vs) :=
  xb_mk F (fun r _ => r) fun _ _ _ _ _ _ b us ws hl => match us, hl with | [_], _ => rfl
theorem xk_I21 {fI : Addr} {fd : FuncData} (F : Fun K "__init__" "TooMany.__init__" sI21 fI fd) : XB K fd ["self", "limit"] ["limit"] (fun us ws => us ++ ws) (fun vs zs => vs ++ zs) :=
  xb_mk F (fun r z => r.append z) fun _ _ _ _ _ _ b us ws hl => match us, ws, hl with | [], [_], _ => rfl | [_], [], _ => rfl
end
end My

namespace My
open PySem PySem.Spec PyProof.Rows L2 Gy Xl

abbrev sOne : Stmt := top 29
abbrev sTwo : Stmt := top 30
abbrev sDbl : Stmt := top 31
/-- a class with one field, its calls -/
structure One (P : Program) (w : World) (K : PySem.W.Frag) (mg : Str → Option Value) (base : Heap) (nm f : Str) (C : Addr) : Prop where
  gm : mg nm = some (.ref C)
  no : PySem.W.findIn K (.ref C) f = some none
  ex : ∃ (fI : Addr) (fd : FuncData), XIn K C fI ∧ FnOk P w K mg base CX0 1 fI fd ["self", f] (spI1 C f) ∧ XB K fd ["self", f] [] (fun us _ => us) (fun vs _ => vs) ∧ XB K fd ["self", f] [f] (fun us ws => us ++ ws) (fun vs zs => vs ++ zs)
structure Two (P : Program) (w : World) (K : PySem.W.Frag) (mg : Str → Option Value) (base : Heap) (nm f1 f2 : Str) (C : Addr) : Prop where
  gm : mg nm = some (.ref C)
  n1 : PySem.W.findIn K (.ref C) f1 = some none
  n2 : PySem.W.findIn K (.ref C) f2 = some none
  ex : ∃ (fI : Addr) (fd : FuncData), XIn K C fI ∧ FnOk P w K mg base CX0 1 fI fd ["self", f1, f2] (spI2 C f1 f2) ∧ XB K fd ["self", f1, f2] [] (fun us _ => us) (fun vs _ => vs) ∧ XB K fd ["self", f1, f2] [f2, f1] (fun us ws => us ++ ws.reverse) (fun vs zs => vs ++ zs.reverse)
structure Nil (P : Program) (w : World) (K : PySem.W.Frag) (mg : Str → Option Value) (base : Heap) (nm : Str) (C : Addr) : Prop where
  gm : mg nm = some (.ref C)
  ex : ∃ (fI : Addr) (fd : FuncData), XIn K C fI ∧ FnOk P w K mg base CX0 1 fI fd ["self"] spI0 ∧ XB K fd ["self"] [] (fun us _ => us) (fun vs _ => vs)
/-- j lists of the same two things are told so far, in the list at L -/
def Iv (H0 : Hp) (L : Addr) (S : Str) (j : Nat) (H' : Hp) : Prop := Same H0 H' ∧ ∃ refs : List Addr, refs.length = j ∧ H' L = some (.lst (refs.map V.ref)) ∧ ∀ r ∈ refs, H' r = some (.lst [.bl true, .str S])
theorem iv_step {H0 H1 H2 : Hp} {L m : Addr} {S : Str} {j : Nat} {refs : List Addr} (h0 : H0 L = none) (sm : Same H0 H1) (el : refs.length = j) (hL : H1 L = some (.lst (refs.map V.ref))) (hr : ∀ r ∈ refs, H1 r = some (.lst [.bl true, .str S]))
    (s : Same H1 H2) (hm : H2 m = some (.lst [.bl true, .str S])) : Iv H0 L S (j + 1) (upd H2 L (.lst (refs.map V.ref ++ [.ref m]))) := by
  have nl : ∀ {r : Addr}, H2 r = some (.lst [.bl true, .str S]) → r ≠ L := fun {r} h z => by
    rw [z, s _ _ hL] at h
    have e := Option.some.inj h
    have e2 : refs.map V.ref = [.bl true, .str S] := HO.lst.inj e
    cases refs with
    | nil => cases e2
    | cons a b => cases e2
  refine ⟨same_upd2 (sm.trans s) h0, refs ++ [m], ?_, ?_, fun r hm' => ?_⟩
  · rw [List.length_append, el]
    rfl
  · rw [upd_same, List.map_append]
    rfl
  · rcases List.mem_append.mp hm' with z | z
    · have e := s _ _ (hr r z)
      rw [upd_ne (nl e)]
      exact e
    · rw [List.mem_singleton.mp z, upd_ne (nl hm)]
      exact hm
theorem paired_rep {E : V → V → Prop} {y : V} : ∀ {refs : List Addr}, (∀ r ∈ refs, E (.ref r) y) → Paired E (refs.map V.ref) (List.replicate refs.length y)
  | [], _ => .nil
  | r :: rs, h => .cons (h r List.mem_cons_self) (paired_rep fun z hz => h z (List.mem_cons_of_mem _ hz))
theorem flat_rep (n : Nat) (y : V) : (List.replicate n [y]).flatten = List.replicate n y := by
  induction n with
  | zero => rfl
  | succ n ih => rw [List.replicate_succ, List.flatten_cons, ih]; rfl
theorem two_len {d : PyData} (h : d.shown.length ≤ 1000) : (listText (PyData.shownAll [d, d])).length ≤ sizeLine := by
  have e := listText_len_le (PyData.shownAll [d, d])
  simp only [PyData.shownAll, List.map_cons, List.map_nil, List.sum_cons, List.sum_nil, List.length_cons, List.length_nil] at e
  rw [sizeLine_eq]
  simp only [PyData.shownAll]
  omega
theorem four_len {d e : PyData} (h : d.shown.length ≤ 1000) (h' : e.shown.length ≤ 1000) : (listText (PyData.shownAll [d, e, d, e])).length ≤ sizeLine := by
  have e := listText_len_le (PyData.shownAll [d, e, d, e])
  simp only [PyData.shownAll, List.map_cons, List.map_nil, List.sum_cons, List.sum_nil, List.length_cons, List.length_nil] at e
  rw [sizeLine_eq]
  simp only [PyData.shownAll]
  omega
theorem two_sh {d : PyData} (h : d.showable = true) : PyData.showableAll [d, d] = true := by
  simp only [PyData.showableAll, h, Bool.and_true]
theorem four_sh {d e : PyData} (h : d.showable = true) (h' : e.showable = true) : PyData.showableAll [d, e, d, e] = true := by
  simp only [PyData.showableAll, h, h', Bool.and_true]
theorem two_dp {d : PyData} (h : d.depth ≤ 3) : PyData.depthAll [d, d] ≤ 60 := by
  simp only [PyData.depthAll]
  omega
theorem four_dp {d e : PyData} (h : d.depth ≤ 3) (h' : e.depth ≤ 3) : PyData.depthAll [d, e, d, e] ≤ 60 := by
  simp only [PyData.depthAll]
  omega
theorem step1 {K : PySem.W.Frag} {D : Ends} {H0 H : Hp} {L C : Addr} {v : V} {d : PyData} {j n : Nat} {nI : Int} {bS f : Str} {Cs : List Addr} {y2 y3 : Option V} {rest : TS} (nL : H0 L = none) (dz : Dz K H0 v d) (dsh : d.showable = true) (ddp : d.depth ≤ 3) (dln : d.shown.length ≤ 1000)
    (T : XCl K C) (no : PySem.W.findIn K (.ref C) f = some none) (hC : Cs[n]? = some C) (hn : nI = ((n : Nat) : Int)) (hb : bS = baseS (kindOf n)) (hj : j ≤ 100) (iv : Iv H0 L (listText (PyData.shownAll [d, d])) j H)
    (k : ∀ a1 a2 H', Iv H0 L (listText (PyData.shownAll [d, d])) (j + 1) H' → rest D [some v, some (.ref L), some (.ref a1), some (.ref a2)] H') :
    tSeq (tPar 2 3 (tCons (tXm C (spI1 C f) (fun vs _ => vs) (tCons (tVar 0) tNil) tNil) (tCons (tXm C (spI1 C f) (fun vs zs => vs ++ zs) tNil (tCons (tVar 0) tNil)) tNil)))
      (tSeq (tDrop (tBM K "list" rAppend (tVar 1) (tCons (tLst (tCons (tCall (spAre K Cs) [] E0 (tCons (tVar 2) (tCons (tVar 3) (tCons (tC (.int nI)) (tCons (tC (.str bS)) tNil)))))
        (tCons (tCB (rRepr K) (tCons (tLst (tCons (tXf1 K f (tVar 2)) (tCons (tXf1 K f (tVar 3)) tNil))) tNil)) tNil))) tNil))) rest) D [some v, some (.ref L), y2, y3] H := by
  subst hn hb
  obtain ⟨sm, refs, el, hL, hr_⟩ := iv
  refine ⟨_, rfl, (by show 1 ≤ 1000; decide), fun a1 n1 => ⟨a1, v, rfl, upd_same, fun dx1 nd1 ne1 => ⟨rfl, ?_⟩⟩⟩
  obtain ⟨t1, xa1⟩ := made1 (K := K) (f := f) (v := v) n1 nd1 ne1 T
  refine ⟨_, rfl, (by show 0 ≤ 1000; decide), fun a2 n2 => ⟨a2, v, rfl, upd_same, fun dx2 nd2 ne2 => ⟨rfl, ?_⟩⟩⟩
  obtain ⟨t2, xa2⟩ := made1 (K := K) (f := f) (v := v) n2 nd2 ne2 T
  refine ⟨_, _, rfl, ?_⟩
  have t12 := t1.trans t2
  refine ⟨_, rfl, .inl ⟨rfl, _, SqL.of (t12 _ _ hL)⟩, ?_⟩
  refine ⟨_, rfl, _, rfl, a1, a2, C, _, _, n, rfl, hC, xat_same t2 xa1, xa2, fun H5 s5 => ?_⟩
  have lk : List.lookup f [(f, v)] = some v := by simp [List.lookup]
  refine ⟨_, rfl, a1, C, _, v, rfl, xat_same (t2.trans s5) xa1, no, lk, _, rfl, a2, C, _, v, rfl, xat_same s5 xa2, no, lk, (by show 2 ≤ sizeLine; decide), fun l nl => ?_⟩
  have t6 := same_upd (o := .lst [v, v]) nl
  have dz6 := dz_same (sm.trans (t12.trans (s5.trans t6))) dz
  refine ⟨l, [v, v], [d, d], rfl, SqL.of upd_same, (fun z => by cases z), .cons dz6 (.cons dz6 .nil), two_sh dsh, two_dp ddp, two_len dln, ?_⟩
  refine ⟨(by show 2 ≤ sizeLine; decide), fun m nm => ?_⟩
  have t7 := same_upd (o := .lst [.bl true, .str (listText (PyData.shownAll [d, d]))]) nm
  have t17 := t12.trans (s5.trans (t6.trans t7))
  refine ⟨L, _, _, rfl, rfl, t17 _ _ hL, (by rw [List.length_map, el]; exact small200 (by omega)), ?_⟩
  exact k a1 a2 _ (iv_step nL sm el hL hr_ t17 upd_same)
theorem last1 {K : PySem.W.Frag} {D : Ends} {H0 H : Hp} {L : Addr} {v : V} {d : PyData} {n : Nat} {nI : Int} {σ : L2.St} (dz : Dz K H0 v d) (dsh : d.showable = true) (ddp : d.depth ≤ 3) (dln : d.shown.length ≤ 1000)
    (hn : nI = ((n : Nat) : Int)) (hn2 : n ≤ 100) (iv : Iv H0 L (listText (PyData.shownAll [d, d])) n H) (h0 : σ[0]? = some (some v)) (h1 : σ[1]? = some (some (.ref L))) (k : ∀ H', Same H0 H' → D.rt (.bl true) H') :
    tRet (tOp (rEqV K) (tVar 1) (tOp rRep (tLst (tCons (tLst (tCons (tC (.bl true)) (tCons (tCB (rRepr K) (tCons (tLst (tCons (tVar 0) (tCons (tVar 0) tNil))) tNil)) tNil))) tNil)) (tC (.int nI)))) D σ H := by
  subst hn
  obtain ⟨sm, refs, el, hL, hr_⟩ := iv
  refine ⟨_, h1, _, h0, _, h0, (by show 2 ≤ sizeLine; decide), fun l nl => ?_⟩
  have t6 := same_upd (o := .lst [v, v]) nl
  have dz6 := dz_same (sm.trans t6) dz
  refine ⟨l, [v, v], [d, d], rfl, SqL.of upd_same, (fun z => by cases z), .cons dz6 (.cons dz6 .nil), two_sh dsh, two_dp ddp, two_len dln, ?_⟩
  refine ⟨(by show 2 ≤ sizeLine; decide), fun m nm => ⟨(by show 1 ≤ sizeLine; decide), fun o no => ?_⟩⟩
  have t7 := same_upd (o := .lst [.bl true, .str (listText (PyData.shownAll [d, d]))]) nm
  have t8 := same_upd (o := .lst [.ref m]) no
  refine ⟨o, (n : Int), _, rfl, rfl, upd_same, by omega, by omega, ?_, fun p np => ?_⟩
  · show 1 * n ≤ sizeLine
    have := small200 (n := n) (by omega)
    omega
  have t9 := same_upd (o := .lst (List.replicate (n : Int).toNat [V.ref m]).flatten) np
  have t69 := t6.trans (t7.trans (t8.trans t9))
  have hm := (t8.trans t9) _ _ (upd_same (a := m))
  refine ⟨2, by decide, .inl ⟨L, p, _, _, rfl, rfl, SqL.of (t69 _ _ hL), SqL.of upd_same, ?_⟩, k _ (sm.trans t69)⟩
  have e : (List.replicate (n : Int).toNat [V.ref m]).flatten = List.replicate refs.length (V.ref m) := by
    rw [flat_rep, el]
    rfl
  rw [e] at t69 hm ⊢
  exact paired_rep fun r hr' => .inr (.inr (.inl ⟨r, m, _, _, rfl, rfl, SqL.of (t69 _ _ (hr_ r hr')), SqL.of hm, .cons (.inl ⟨rfl, rfl⟩) (.cons (.inl ⟨rfl, rfl⟩) .nil)⟩))
structure TxtX (mg : Str → Option Value) (fA : Addr) : Prop where
  gA : mg "_law_are_right" = some (.ref fA)
  repr : mg "repr" = none
theorem fun_g0 {P : Program} {w : World} {K : PySem.W.Frag} {mg : Str → Option Value} {base : Heap} {k : Nat} {f : Addr} {fd : FuncData} {ps N : List Str} {sp : Sp} {x qual : Str} {st : Stmt} (F : Fun K x qual st f fd) (S : FnScope N ps (defScope st)) (ln : ∀ {vs H Q E}, sp vs H Q E → vs.length = ps.length)
    (bd : ∀ (cdv : Value) (A : Around) (outer : List Env) (s : Shared) (H : Hp) (vs : List V) (Q : VK) (E : XK), A.guards = some [] →
      Room k (A.deeper (envOfC qual (defScope st) s.heap.objs.size f cdv)) → sp vs H Q E →
      ∃ t, PSs (cxOf CX0 P w K mg base N qual (defScope st) f cdv A outer s H E).nox (defBody st) t ∧
        t { nx := fun _ H' => Q .non H', rt := Q } (start N vs) H) : FnG P w K mg base CX0 (k + 1) f fd ps sp := by
  refine fun_g F S ln fun cdv A outer s H vs Q E g hr h => ?_
  obtain ⟨t, ht, hq⟩ := bd cdv A outer s H vs Q E g hr h
  exact ⟨t, ht.nox, hq⟩
section
variable {P : Program} {w : World} {K : PySem.W.Frag} {mg : Str → Option Value} {base : Heap}
def spOne (K : PySem.W.Frag) : Sp := fun vs H Q _ => ∃ v : V, vs = [v] ∧ Pk K H v ∧ ∀ H', Same H H' → Q (.bl true) H'
def spTwo (K : PySem.W.Frag) : Sp := fun vs H Q _ => ∃ v u : V, vs = [v, u] ∧ Pk K H v ∧ Pk K H u ∧ ∀ H', Same H H' → Q (.bl true) H'

theorem scone : FnScope ["_law_thing_here", "_law_told", "_law_first", "_law_second"] ["_law_thing_here"] (defScope sOne) := ⟨rfl, rfl, rfl, by decide +kernel, rfl, by decide +kernel, by decide +kernel⟩
theorem ok_one {f fA R c0 c1 c2 c3 c4 c5 c6 c7 c8 c9 c10 c11 c12 c13 c14 c15 c16 c17 c18 c19 c20 c21 : Addr} {fd fdA : FuncData} (F : Fun K "_law_single_right_1" "_law_single_right_1" sOne f fd) (T : TxtX mg fA) (kA : PySem.W.keepIn K (.ref fA) = true)
    (GA : FnOk P w K mg base CX0 2 fA fdA ["_law_first", "_law_second", "_law_at", "_law_base"] (spAre K [c0, c1, c2, c3, c4, c5, c6, c7, c8, c9, c10, c11, c12, c13, c14, c15, c16, c17, c18, c19, c20, c21])) (bA : Binds K fdA ["_law_first", "_law_second", "_law_at", "_law_base"] [])
    (o0 : One P w K mg base "InvalidName" "value" c0) (o1 : One P w K mg base "InvalidWord" "value" c1) (o3 : One P w K mg base "InvalidRelink" "value" c3) (o4 : One P w K mg base "InvalidItem" "value" c4) (o6 : One P w K mg base "InvalidEvent" "value" c6) (o7 : One P w K mg base "InvalidChoice" "value" c7) (o8 : One P w K mg base "InvalidScript" "value" c8) (o9 : One P w K mg base "InvalidPlan" "index" c9) (o10 : One P w K mg base "InvalidText" "value" c10) : FnG P w K mg base CX0 3 f fd ["_law_thing_here"] (spOne K) := by
  obtain ⟨i0, d0, X0, G0, B0, b0⟩ := o0.ex
  obtain ⟨i1, d1, X1, G1, B1, b1⟩ := o1.ex
  obtain ⟨i3, d3, X3, G3, B3, b3⟩ := o3.ex
  obtain ⟨i4, d4, X4, G4, B4, b4⟩ := o4.ex
  obtain ⟨i6, d6, X6, G6, B6, b6⟩ := o6.ex
  obtain ⟨i7, d7, X7, G7, B7, b7⟩ := o7.ex
  obtain ⟨i8, d8, X8, G8, B8, b8⟩ := o8.ex
  obtain ⟨i9, d9, X9, G9, B9, b9⟩ := o9.ex
  obtain ⟨i10, d10, X10, G10, B10, b10⟩ := o10.ex
  refine fun_g0 F scone (fun {vs H Q E} h => ?_) (fun cdv A outer s H vs Q E gd hr h => ?_)
  · obtain ⟨v, rfl, _⟩ := h
    rfl
  · obtain ⟨v, rfl, ⟨d, dz, dsh, ddp, dln⟩, q⟩ := h
    have hu : (A.deeper (envOfC "_law_single_right_1" (defScope sOne) s.heap.objs.size f cdv)).units + 70 < cLine := by
      have := hr.un
      omega
    have hu64 := hr.units
    refine ⟨_, pss_cons (ps_set (i := 1) scone.nd rfl (.inl rfl) (pe_lst pa_nil))
      (pss_cons (ps_par (i := 2) (j := 3) (by rfl) scone.nd rfl rfl (by decide) rfl rfl (pa_cons (pe_xm X0 G0 hr (by rfl) o0.gm B0 pass0 (pa_cons (pv 0) pa_nil)) (pa_cons (pe_xk X0 G0 hr (by rfl) o0.gm b0 pass0 (pk_cons (pv 0) pk_nil)) pa_nil)) (by rfl))
      (pss_cons (ps_expr (pe_bm PySem.F.plainAttrs_list PySem.F.slot_list_append PySem.F.type_list_append mt_append (pv 1) (pa_cons (pe_lst (pa_cons (pe_call GA hr (by rfl) T.gA kA bA .nil pass0 (pa_cons (pv 2) (pa_cons (pv 3) (pa_cons pe_int (pa_cons pe_str pa_nil))))) (pa_cons (pe_callB (repr_dz gd hu) (by rfl) T.repr (by decide +kernel) (pa_cons (pe_lst (pa_cons (pe_xf1 (pv 2)) (pa_cons (pe_xf1 (pv 3)) pa_nil))) pa_nil)) pa_nil))) pa_nil)))
      (pss_cons (ps_par (i := 2) (j := 3) (by rfl) scone.nd rfl rfl (by decide) rfl rfl (pa_cons (pe_xm X1 G1 hr (by rfl) o1.gm B1 pass0 (pa_cons (pv 0) pa_nil)) (pa_cons (pe_xk X1 G1 hr (by rfl) o1.gm b1 pass0 (pk_cons (pv 0) pk_nil)) pa_nil)) (by rfl))
      (pss_cons (ps_expr (pe_bm PySem.F.plainAttrs_list PySem.F.slot_list_append PySem.F.type_list_append mt_append (pv 1) (pa_cons (pe_lst (pa_cons (pe_call GA hr (by rfl) T.gA kA bA .nil pass0 (pa_cons (pv 2) (pa_cons (pv 3) (pa_cons pe_int (pa_cons pe_str pa_nil))))) (pa_cons (pe_callB (repr_dz gd hu) (by rfl) T.repr (by decide +kernel) (pa_cons (pe_lst (pa_cons (pe_xf1 (pv 2)) (pa_cons (pe_xf1 (pv 3)) pa_nil))) pa_nil)) pa_nil))) pa_nil)))
      (pss_cons (ps_par (i := 2) (j := 3) (by rfl) scone.nd rfl rfl (by decide) rfl rfl (pa_cons (pe_xm X3 G3 hr (by rfl) o3.gm B3 pass0 (pa_cons (pv 0) pa_nil)) (pa_cons (pe_xk X3 G3 hr (by rfl) o3.gm b3 pass0 (pk_cons (pv 0) pk_nil)) pa_nil)) (by rfl))
      (pss_cons (ps_expr (pe_bm PySem.F.plainAttrs_list PySem.F.slot_list_append PySem.F.type_list_append mt_append (pv 1) (pa_cons (pe_lst (pa_cons (pe_call GA hr (by rfl) T.gA kA bA .nil pass0 (pa_cons (pv 2) (pa_cons (pv 3) (pa_cons pe_int (pa_cons pe_str pa_nil))))) (pa_cons (pe_callB (repr_dz gd hu) (by rfl) T.repr (by decide +kernel) (pa_cons (pe_lst (pa_cons (pe_xf1 (pv 2)) (pa_cons (pe_xf1 (pv 3)) pa_nil))) pa_nil)) pa_nil))) pa_nil)))
      (pss_cons (ps_par (i := 2) (j := 3) (by rfl) scone.nd rfl rfl (by decide) rfl rfl (pa_cons (pe_xm X4 G4 hr (by rfl) o4.gm B4 pass0 (pa_cons (pv 0) pa_nil)) (pa_cons (pe_xk X4 G4 hr (by rfl) o4.gm b4 pass0 (pk_cons (pv 0) pk_nil)) pa_nil)) (by rfl))
      (pss_cons (ps_expr (pe_bm PySem.F.plainAttrs_list PySem.F.slot_list_append PySem.F.type_list_append mt_append (pv 1) (pa_cons (pe_lst (pa_cons (pe_call GA hr (by rfl) T.gA kA bA .nil pass0 (pa_cons (pv 2) (pa_cons (pv 3) (pa_cons pe_int (pa_cons pe_str pa_nil))))) (pa_cons (pe_callB (repr_dz gd hu) (by rfl) T.repr (by decide +kernel) (pa_cons (pe_lst (pa_cons (pe_xf1 (pv 2)) (pa_cons (pe_xf1 (pv 3)) pa_nil))) pa_nil)) pa_nil))) pa_nil)))
      (pss_cons (ps_par (i := 2) (j := 3) (by rfl) scone.nd rfl rfl (by decide) rfl rfl (pa_cons (pe_xm X6 G6 hr (by rfl) o6.gm B6 pass0 (pa_cons (pv 0) pa_nil)) (pa_cons (pe_xk X6 G6 hr (by rfl) o6.gm b6 pass0 (pk_cons (pv 0) pk_nil)) pa_nil)) (by rfl))
      (pss_cons (ps_expr (pe_bm PySem.F.plainAttrs_list PySem.F.slot_list_append PySem.F.type_list_append mt_append (pv 1) (pa_cons (pe_lst (pa_cons (pe_call GA hr (by rfl) T.gA kA bA .nil pass0 (pa_cons (pv 2) (pa_cons (pv 3) (pa_cons pe_int (pa_cons pe_str pa_nil))))) (pa_cons (pe_callB (repr_dz gd hu) (by rfl) T.repr (by decide +kernel) (pa_cons (pe_lst (pa_cons (pe_xf1 (pv 2)) (pa_cons (pe_xf1 (pv 3)) pa_nil))) pa_nil)) pa_nil))) pa_nil)))
      (pss_cons (ps_par (i := 2) (j := 3) (by rfl) scone.nd rfl rfl (by decide) rfl rfl (pa_cons (pe_xm X7 G7 hr (by rfl) o7.gm B7 pass0 (pa_cons (pv 0) pa_nil)) (pa_cons (pe_xk X7 G7 hr (by rfl) o7.gm b7 pass0 (pk_cons (pv 0) pk_nil)) pa_nil)) (by rfl))
      (pss_cons (ps_expr (pe_bm PySem.F.plainAttrs_list PySem.F.slot_list_append PySem.F.type_list_append mt_append (pv 1) (pa_cons (pe_lst (pa_cons (pe_call GA hr (by rfl) T.gA kA bA .nil pass0 (pa_cons (pv 2) (pa_cons (pv 3) (pa_cons pe_int (pa_cons pe_str pa_nil))))) (pa_cons (pe_callB (repr_dz gd hu) (by rfl) T.repr (by decide +kernel) (pa_cons (pe_lst (pa_cons (pe_xf1 (pv 2)) (pa_cons (pe_xf1 (pv 3)) pa_nil))) pa_nil)) pa_nil))) pa_nil)))
      (pss_cons (ps_par (i := 2) (j := 3) (by rfl) scone.nd rfl rfl (by decide) rfl rfl (pa_cons (pe_xm X8 G8 hr (by rfl) o8.gm B8 pass0 (pa_cons (pv 0) pa_nil)) (pa_cons (pe_xk X8 G8 hr (by rfl) o8.gm b8 pass0 (pk_cons (pv 0) pk_nil)) pa_nil)) (by rfl))
      (pss_cons (ps_expr (pe_bm PySem.F.plainAttrs_list PySem.F.slot_list_append PySem.F.type_list_append mt_append (pv 1) (pa_cons (pe_lst (pa_cons (pe_call GA hr (by rfl) T.gA kA bA .nil pass0 (pa_cons (pv 2) (pa_cons (pv 3) (pa_cons pe_int (pa_cons pe_str pa_nil))))) (pa_cons (pe_callB (repr_dz gd hu) (by rfl) T.repr (by decide +kernel) (pa_cons (pe_lst (pa_cons (pe_xf1 (pv 2)) (pa_cons (pe_xf1 (pv 3)) pa_nil))) pa_nil)) pa_nil))) pa_nil)))
      (pss_cons (ps_par (i := 2) (j := 3) (by rfl) scone.nd rfl rfl (by decide) rfl rfl (pa_cons (pe_xm X9 G9 hr (by rfl) o9.gm B9 pass0 (pa_cons (pv 0) pa_nil)) (pa_cons (pe_xk X9 G9 hr (by rfl) o9.gm b9 pass0 (pk_cons (pv 0) pk_nil)) pa_nil)) (by rfl))
      (pss_cons (ps_expr (pe_bm PySem.F.plainAttrs_list PySem.F.slot_list_append PySem.F.type_list_append mt_append (pv 1) (pa_cons (pe_lst (pa_cons (pe_call GA hr (by rfl) T.gA kA bA .nil pass0 (pa_cons (pv 2) (pa_cons (pv 3) (pa_cons pe_int (pa_cons pe_str pa_nil))))) (pa_cons (pe_callB (repr_dz gd hu) (by rfl) T.repr (by decide +kernel) (pa_cons (pe_lst (pa_cons (pe_xf1 (pv 2)) (pa_cons (pe_xf1 (pv 3)) pa_nil))) pa_nil)) pa_nil))) pa_nil)))
      (pss_cons (ps_par (i := 2) (j := 3) (by rfl) scone.nd rfl rfl (by decide) rfl rfl (pa_cons (pe_xm X10 G10 hr (by rfl) o10.gm B10 pass0 (pa_cons (pv 0) pa_nil)) (pa_cons (pe_xk X10 G10 hr (by rfl) o10.gm b10 pass0 (pk_cons (pv 0) pk_nil)) pa_nil)) (by rfl))
      (pss_cons (ps_expr (pe_bm PySem.F.plainAttrs_list PySem.F.slot_list_append PySem.F.type_list_append mt_append (pv 1) (pa_cons (pe_lst (pa_cons (pe_call GA hr (by rfl) T.gA kA bA .nil pass0 (pa_cons (pv 2) (pa_cons (pv 3) (pa_cons pe_int (pa_cons pe_str pa_nil))))) (pa_cons (pe_callB (repr_dz gd hu) (by rfl) T.repr (by decide +kernel) (pa_cons (pe_lst (pa_cons (pe_xf1 (pv 2)) (pa_cons (pe_xf1 (pv 3)) pa_nil))) pa_nil)) pa_nil))) pa_nil)))
      (pss_one (ps_ret (pe_cmpR (op_eqV hu64) (pv 1) (pe_op op_rep (pe_lst (pa_cons (pe_lst (pa_cons pe_bl (pa_cons (pe_callB (repr_dz gd hu) (by rfl) T.repr (by decide +kernel) (pa_cons (pe_lst (pa_cons (pv 0) (pa_cons (pv 0) pa_nil))) pa_nil)) pa_nil))) pa_nil)) pe_int) (nomark _)))))))))))))))))))))), ?_⟩
    refine ⟨Nat.zero_le _, fun L nL => ?_⟩
    have iv : Iv H L (listText (PyData.shownAll [d, d])) 0 (upd H L (.lst [])) := ⟨same_upd nL, [], rfl, upd_same, fun _ z => nomatch z⟩
    refine step1 (n := 0) (f := "value") nL dz dsh ddp dln X0.toXCl o0.no rfl rfl rfl (by decide) iv fun a1 a2 H' iv => ?_
    refine step1 (n := 1) (f := "value") nL dz dsh ddp dln X1.toXCl o1.no rfl rfl rfl (by decide) iv fun a1 a2 H' iv => ?_
    refine step1 (n := 3) (f := "value") nL dz dsh ddp dln X3.toXCl o3.no rfl rfl rfl (by decide) iv fun a1 a2 H' iv => ?_
    refine step1 (n := 4) (f := "value") nL dz dsh ddp dln X4.toXCl o4.no rfl rfl rfl (by decide) iv fun a1 a2 H' iv => ?_
    refine step1 (n := 6) (f := "value") nL dz dsh ddp dln X6.toXCl o6.no rfl rfl rfl (by decide) iv fun a1 a2 H' iv => ?_
    refine step1 (n := 7) (f := "value") nL dz dsh ddp dln X7.toXCl o7.no rfl rfl rfl (by decide) iv fun a1 a2 H' iv => ?_
    refine step1 (n := 8) (f := "value") nL dz dsh ddp dln X8.toXCl o8.no rfl rfl rfl (by decide) iv fun a1 a2 H' iv => ?_
    refine step1 (n := 9) (f := "index") nL dz dsh ddp dln X9.toXCl o9.no rfl rfl rfl (by decide) iv fun a1 a2 H' iv => ?_
    refine step1 (n := 10) (f := "value") nL dz dsh ddp dln X10.toXCl o10.no rfl rfl rfl (by decide) iv fun a1 a2 H' iv => ?_
    exact last1 (n := 9) dz dsh ddp dln rfl (by decide) iv rfl rfl fun H' s => q _ s
theorem sctwo : FnScope ["_law_thing_here", "_law_told", "_law_first", "_law_second"] ["_law_thing_here"] (defScope sTwo) := ⟨rfl, rfl, rfl, by decide +kernel, rfl, by decide +kernel, by decide +kernel⟩
theorem ok_two {f fA R c0 c1 c2 c3 c4 c5 c6 c7 c8 c9 c10 c11 c12 c13 c14 c15 c16 c17 c18 c19 c20 c21 : Addr} {fd fdA : FuncData} (F : Fun K "_law_single_right_2" "_law_single_right_2" sTwo f fd) (T : TxtX mg fA) (kA : PySem.W.keepIn K (.ref fA) = true)
    (GA : FnOk P w K mg base CX0 2 fA fdA ["_law_first", "_law_second", "_law_at", "_law_base"] (spAre K [c0, c1, c2, c3, c4, c5, c6, c7, c8, c9, c10, c11, c12, c13, c14, c15, c16, c17, c18, c19, c20, c21])) (bA : Binds K fdA ["_law_first", "_law_second", "_law_at", "_law_base"] [])
    (o11 : One P w K mg base "InvalidLine" "line" c11) (o12 : One P w K mg base "InvalidCommand" "value" c12) (o13 : One P w K mg base "UnknownHost" "host" c13) (o15 : One P w K mg base "Busy" "host" c15) (o17 : One P w K mg base "NotALeaf" "host" c17) (o18 : One P w K mg base "NameTaken" "value" c18) (o19 : One P w K mg base "NotAtRest" "channels" c19) (o21 : One P w K mg base "TooMany" "limit" c21) : FnG P w K mg base CX0 3 f fd ["_law_thing_here"] (spOne K) := by
  obtain ⟨i11, d11, X11, G11, B11, b11⟩ := o11.ex
  obtain ⟨i12, d12, X12, G12, B12, b12⟩ := o12.ex
  obtain ⟨i13, d13, X13, G13, B13, b13⟩ := o13.ex
  obtain ⟨i15, d15, X15, G15, B15, b15⟩ := o15.ex
  obtain ⟨i17, d17, X17, G17, B17, b17⟩ := o17.ex
  obtain ⟨i18, d18, X18, G18, B18, b18⟩ := o18.ex
  obtain ⟨i19, d19, X19, G19, B19, b19⟩ := o19.ex
  obtain ⟨i21, d21, X21, G21, B21, b21⟩ := o21.ex
  refine fun_g0 F sctwo (fun {vs H Q E} h => ?_) (fun cdv A outer s H vs Q E gd hr h => ?_)
  · obtain ⟨v, rfl, _⟩ := h
    rfl
  · obtain ⟨v, rfl, ⟨d, dz, dsh, ddp, dln⟩, q⟩ := h
    have hu : (A.deeper (envOfC "_law_single_right_2" (defScope sTwo) s.heap.objs.size f cdv)).units + 70 < cLine := by
      have := hr.un
      omega
    have hu64 := hr.units
    refine ⟨_, pss_cons (ps_set (i := 1) sctwo.nd rfl (.inl rfl) (pe_lst pa_nil))
      (pss_cons (ps_par (i := 2) (j := 3) (by rfl) sctwo.nd rfl rfl (by decide) rfl rfl (pa_cons (pe_xm X11 G11 hr (by rfl) o11.gm B11 pass0 (pa_cons (pv 0) pa_nil)) (pa_cons (pe_xk X11 G11 hr (by rfl) o11.gm b11 pass0 (pk_cons (pv 0) pk_nil)) pa_nil)) (by rfl))
      (pss_cons (ps_expr (pe_bm PySem.F.plainAttrs_list PySem.F.slot_list_append PySem.F.type_list_append mt_append (pv 1) (pa_cons (pe_lst (pa_cons (pe_call GA hr (by rfl) T.gA kA bA .nil pass0 (pa_cons (pv 2) (pa_cons (pv 3) (pa_cons pe_int (pa_cons pe_str pa_nil))))) (pa_cons (pe_callB (repr_dz gd hu) (by rfl) T.repr (by decide +kernel) (pa_cons (pe_lst (pa_cons (pe_xf1 (pv 2)) (pa_cons (pe_xf1 (pv 3)) pa_nil))) pa_nil)) pa_nil))) pa_nil)))
      (pss_cons (ps_par (i := 2) (j := 3) (by rfl) sctwo.nd rfl rfl (by decide) rfl rfl (pa_cons (pe_xm X12 G12 hr (by rfl) o12.gm B12 pass0 (pa_cons (pv 0) pa_nil)) (pa_cons (pe_xk X12 G12 hr (by rfl) o12.gm b12 pass0 (pk_cons (pv 0) pk_nil)) pa_nil)) (by rfl))
      (pss_cons (ps_expr (pe_bm PySem.F.plainAttrs_list PySem.F.slot_list_append PySem.F.type_list_append mt_append (pv 1) (pa_cons (pe_lst (pa_cons (pe_call GA hr (by rfl) T.gA kA bA .nil pass0 (pa_cons (pv 2) (pa_cons (pv 3) (pa_cons pe_int (pa_cons pe_str pa_nil))))) (pa_cons (pe_callB (repr_dz gd hu) (by rfl) T.repr (by decide +kernel) (pa_cons (pe_lst (pa_cons (pe_xf1 (pv 2)) (pa_cons (pe_xf1 (pv 3)) pa_nil))) pa_nil)) pa_nil))) pa_nil)))
      (pss_cons (ps_par (i := 2) (j := 3) (by rfl) sctwo.nd rfl rfl (by decide) rfl rfl (pa_cons (pe_xm X13 G13 hr (by rfl) o13.gm B13 pass0 (pa_cons (pv 0) pa_nil)) (pa_cons (pe_xk X13 G13 hr (by rfl) o13.gm b13 pass0 (pk_cons (pv 0) pk_nil)) pa_nil)) (by rfl))
      (pss_cons (ps_expr (pe_bm PySem.F.plainAttrs_list PySem.F.slot_list_append PySem.F.type_list_append mt_append (pv 1) (pa_cons (pe_lst (pa_cons (pe_call GA hr (by rfl) T.gA kA bA .nil pass0 (pa_cons (pv 2) (pa_cons (pv 3) (pa_cons pe_int (pa_cons pe_str pa_nil))))) (pa_cons (pe_callB (repr_dz gd hu) (by rfl) T.repr (by decide +kernel) (pa_cons (pe_lst (pa_cons (pe_xf1 (pv 2)) (pa_cons (pe_xf1 (pv 3)) pa_nil))) pa_nil)) pa_nil))) pa_nil)))
      (pss_cons (ps_par (i := 2) (j := 3) (by rfl) sctwo.nd rfl rfl (by decide) rfl rfl (pa_cons (pe_xm X15 G15 hr (by rfl) o15.gm B15 pass0 (pa_cons (pv 0) pa_nil)) (pa_cons (pe_xk X15 G15 hr (by rfl) o15.gm b15 pass0 (pk_cons (pv 0) pk_nil)) pa_nil)) (by rfl))
      (pss_cons (ps_expr (pe_bm PySem.F.plainAttrs_list PySem.F.slot_list_append PySem.F.type_list_append mt_append (pv 1) (pa_cons (pe_lst (pa_cons (pe_call GA hr (by rfl) T.gA kA bA .nil pass0 (pa_cons (pv 2) (pa_cons (pv 3) (pa_cons pe_int (pa_cons pe_str pa_nil))))) (pa_cons (pe_callB (repr_dz gd hu) (by rfl) T.repr (by decide +kernel) (pa_cons (pe_lst (pa_cons (pe_xf1 (pv 2)) (pa_cons (pe_xf1 (pv 3)) pa_nil))) pa_nil)) pa_nil))) pa_nil)))
      (pss_cons (ps_par (i := 2) (j := 3) (by rfl) sctwo.nd rfl rfl (by decide) rfl rfl (pa_cons (pe_xm X17 G17 hr (by rfl) o17.gm B17 pass0 (pa_cons (pv 0) pa_nil)) (pa_cons (pe_xk X17 G17 hr (by rfl) o17.gm b17 pass0 (pk_cons (pv 0) pk_nil)) pa_nil)) (by rfl))
      (pss_cons (ps_expr (pe_bm PySem.F.plainAttrs_list PySem.F.slot_list_append PySem.F.type_list_append mt_append (pv 1) (pa_cons (pe_lst (pa_cons (pe_call GA hr (by rfl) T.gA kA bA .nil pass0 (pa_cons (pv 2) (pa_cons (pv 3) (pa_cons pe_int (pa_cons pe_str pa_nil))))) (pa_cons (pe_callB (repr_dz gd hu) (by rfl) T.repr (by decide +kernel) (pa_cons (pe_lst (pa_cons (pe_xf1 (pv 2)) (pa_cons (pe_xf1 (pv 3)) pa_nil))) pa_nil)) pa_nil))) pa_nil)))
      (pss_cons (ps_par (i := 2) (j := 3) (by rfl) sctwo.nd rfl rfl (by decide) rfl rfl (pa_cons (pe_xm X18 G18 hr (by rfl) o18.gm B18 pass0 (pa_cons (pv 0) pa_nil)) (pa_cons (pe_xk X18 G18 hr (by rfl) o18.gm b18 pass0 (pk_cons (pv 0) pk_nil)) pa_nil)) (by rfl))
      (pss_cons (ps_expr (pe_bm PySem.F.plainAttrs_list PySem.F.slot_list_append PySem.F.type_list_append mt_append (pv 1) (pa_cons (pe_lst (pa_cons (pe_call GA hr (by rfl) T.gA kA bA .nil pass0 (pa_cons (pv 2) (pa_cons (pv 3) (pa_cons pe_int (pa_cons pe_str pa_nil))))) (pa_cons (pe_callB (repr_dz gd hu) (by rfl) T.repr (by decide +kernel) (pa_cons (pe_lst (pa_cons (pe_xf1 (pv 2)) (pa_cons (pe_xf1 (pv 3)) pa_nil))) pa_nil)) pa_nil))) pa_nil)))
      (pss_cons (ps_par (i := 2) (j := 3) (by rfl) sctwo.nd rfl rfl (by decide) rfl rfl (pa_cons (pe_xm X19 G19 hr (by rfl) o19.gm B19 pass0 (pa_cons (pv 0) pa_nil)) (pa_cons (pe_xk X19 G19 hr (by rfl) o19.gm b19 pass0 (pk_cons (pv 0) pk_nil)) pa_nil)) (by rfl))
      (pss_cons (ps_expr (pe_bm PySem.F.plainAttrs_list PySem.F.slot_list_append PySem.F.type_list_append mt_append (pv 1) (pa_cons (pe_lst (pa_cons (pe_call GA hr (by rfl) T.gA kA bA .nil pass0 (pa_cons (pv 2) (pa_cons (pv 3) (pa_cons pe_int (pa_cons pe_str pa_nil))))) (pa_cons (pe_callB (repr_dz gd hu) (by rfl) T.repr (by decide +kernel) (pa_cons (pe_lst (pa_cons (pe_xf1 (pv 2)) (pa_cons (pe_xf1 (pv 3)) pa_nil))) pa_nil)) pa_nil))) pa_nil)))
      (pss_cons (ps_par (i := 2) (j := 3) (by rfl) sctwo.nd rfl rfl (by decide) rfl rfl (pa_cons (pe_xm X21 G21 hr (by rfl) o21.gm B21 pass0 (pa_cons (pv 0) pa_nil)) (pa_cons (pe_xk X21 G21 hr (by rfl) o21.gm b21 pass0 (pk_cons (pv 0) pk_nil)) pa_nil)) (by rfl))
      (pss_cons (ps_expr (pe_bm PySem.F.plainAttrs_list PySem.F.slot_list_append PySem.F.type_list_append mt_append (pv 1) (pa_cons (pe_lst (pa_cons (pe_call GA hr (by rfl) T.gA kA bA .nil pass0 (pa_cons (pv 2) (pa_cons (pv 3) (pa_cons pe_int (pa_cons pe_str pa_nil))))) (pa_cons (pe_callB (repr_dz gd hu) (by rfl) T.repr (by decide +kernel) (pa_cons (pe_lst (pa_cons (pe_xf1 (pv 2)) (pa_cons (pe_xf1 (pv 3)) pa_nil))) pa_nil)) pa_nil))) pa_nil)))
      (pss_one (ps_ret (pe_cmpR (op_eqV hu64) (pv 1) (pe_op op_rep (pe_lst (pa_cons (pe_lst (pa_cons pe_bl (pa_cons (pe_callB (repr_dz gd hu) (by rfl) T.repr (by decide +kernel) (pa_cons (pe_lst (pa_cons (pv 0) (pa_cons (pv 0) pa_nil))) pa_nil)) pa_nil))) pa_nil)) pe_int) (nomark _)))))))))))))))))))), ?_⟩
    refine ⟨Nat.zero_le _, fun L nL => ?_⟩
    have iv : Iv H L (listText (PyData.shownAll [d, d])) 0 (upd H L (.lst [])) := ⟨same_upd nL, [], rfl, upd_same, fun _ z => nomatch z⟩
    refine step1 (n := 11) (f := "line") nL dz dsh ddp dln X11.toXCl o11.no rfl rfl rfl (by decide) iv fun a1 a2 H' iv => ?_
    refine step1 (n := 12) (f := "value") nL dz dsh ddp dln X12.toXCl o12.no rfl rfl rfl (by decide) iv fun a1 a2 H' iv => ?_
    refine step1 (n := 13) (f := "host") nL dz dsh ddp dln X13.toXCl o13.no rfl rfl rfl (by decide) iv fun a1 a2 H' iv => ?_
    refine step1 (n := 15) (f := "host") nL dz dsh ddp dln X15.toXCl o15.no rfl rfl rfl (by decide) iv fun a1 a2 H' iv => ?_
    refine step1 (n := 17) (f := "host") nL dz dsh ddp dln X17.toXCl o17.no rfl rfl rfl (by decide) iv fun a1 a2 H' iv => ?_
    refine step1 (n := 18) (f := "value") nL dz dsh ddp dln X18.toXCl o18.no rfl rfl rfl (by decide) iv fun a1 a2 H' iv => ?_
    refine step1 (n := 19) (f := "channels") nL dz dsh ddp dln X19.toXCl o19.no rfl rfl rfl (by decide) iv fun a1 a2 H' iv => ?_
    refine step1 (n := 21) (f := "limit") nL dz dsh ddp dln X21.toXCl o21.no rfl rfl rfl (by decide) iv fun a1 a2 H' iv => ?_
    exact last1 (n := 8) dz dsh ddp dln rfl (by decide) iv rfl rfl fun H' s => q _ s
end
end My

namespace My
open PySem PySem.Spec PyProof.Rows L2 Gy Xl

/-- j pairs of True and the text are told so far -/
def pairs (S : Str) (j : Nat) : List V := (List.replicate j [V.bl true, V.str S]).flatten
theorem pairs_succ (S : Str) (j : Nat) : pairs S (j + 1) = pairs S j ++ [V.bl true] ++ [V.str S] := by
  unfold pairs
  rw [List.replicate_succ', List.flatten_append, List.append_assoc]
  rfl
theorem pairs_len (S : Str) (j : Nat) : (pairs S j).length = 2 * j := by
  induction j with
  | zero => rfl
  | succ j ih =>
    rw [pairs_succ, List.length_append, List.length_append, ih]
    show 2 * j + 1 + 1 = 2 * (j + 1)
    omega
theorem pairs_flat (S : Str) (j : Nat) : ∀ x ∈ pairs S j, flatB x = true := by
  induction j with
  | zero =>
    intro x h
    exact nomatch h
  | succ j ih =>
    intro x h
    rw [pairs_succ] at h
    rcases List.mem_append.mp h with h | h
    · rcases List.mem_append.mp h with h | h
      · exact ih x h
      · rw [List.mem_singleton.mp h]
        rfl
    · rw [List.mem_singleton.mp h]
      rfl
theorem paired_self {E : V → V → Prop} : ∀ {xs : List V}, (∀ x ∈ xs, E x x) → Paired E xs xs
  | [], _ => .nil
  | x :: r, h => .cons (h x List.mem_cons_self) (paired_self fun z hz => h z (List.mem_cons_of_mem _ hz))
def Iv2 (H0 : Hp) (L : Addr) (S : Str) (j : Nat) (H' : Hp) : Prop := Same H0 H' ∧ H' L = some (.lst (pairs S j))
theorem step2 {K : PySem.W.Frag} {D : Ends} {H0 H : Hp} {L C : Addr} {v u : V} {d e : PyData} {j n : Nat} {nI : Int} {bS f1 f2 : Str} {Cs : List Addr} {y3 y4 y5 : Option V} {rest : TS} (nL : H0 L = none) (dz : Dz K H0 v d) (dsh : d.showable = true) (ddp : d.depth ≤ 3) (dln : d.shown.length ≤ 1000)
    (ez : Dz K H0 u e) (esh : e.showable = true) (edp : e.depth ≤ 3) (eln : e.shown.length ≤ 1000)
    (T : XCl K C) (no1 : PySem.W.findIn K (.ref C) f1 = some none) (no2 : PySem.W.findIn K (.ref C) f2 = some none) (ff : (f1 == f2) = false) (hC : Cs[n]? = some C) (hn : nI = ((n : Nat) : Int)) (hb : bS = baseS (kindOf n)) (hj : j ≤ 50) (iv : Iv2 H0 L (listText (PyData.shownAll [d, e, d, e])) j H)
    (k : ∀ a1 a2 H', Iv2 H0 L (listText (PyData.shownAll [d, e, d, e])) (j + 1) H' → rest D [some v, some u, some (.ref L), some (.ref a1), some (.ref a2), y5] H') :
    tSeq (tPar 3 4 (tCons (tXm C (spI2 C f1 f2) (fun vs _ => vs) (tCons (tVar 0) (tCons (tVar 1) tNil)) tNil) (tCons (tXm C (spI2 C f1 f2) (fun vs zs => vs ++ zs.reverse) tNil (tCons (tVar 1) (tCons (tVar 0) tNil))) tNil)))
      (tSeq (tDrop (tBM K "list" rAppend (tVar 2) (tCons (tCall (spAre K Cs) [] E0 (tCons (tVar 3) (tCons (tVar 4) (tCons (tC (.int nI)) (tCons (tC (.str bS)) tNil))))) tNil)))
      (tSeq (tDrop (tBM K "list" rAppend (tVar 2) (tCons (tCB (rRepr K) (tCons (tLst (tCons (tXf1 K f1 (tVar 3)) (tCons (tXf1 K f2 (tVar 3)) (tCons (tXf1 K f1 (tVar 4)) (tCons (tXf1 K f2 (tVar 4)) tNil))))) tNil)) tNil))) rest)) D [some v, some u, some (.ref L), y3, y4, y5] H := by
  subst hn hb
  obtain ⟨sm, hL⟩ := iv
  refine ⟨_, rfl, _, rfl, (by show 2 ≤ 1000; decide), fun a1 n1 => ⟨a1, v, u, rfl, upd_same, fun dx1 nd1 ne1 => ⟨rfl, ?_⟩⟩⟩
  obtain ⟨t1, xa1⟩ := made2 (K := K) (f1 := f1) (f2 := f2) (v1 := v) (v2 := u) n1 nd1 ne1 T
  refine ⟨_, rfl, _, rfl, (by show 0 ≤ 1000; decide), fun a2 n2 => ⟨a2, v, u, rfl, upd_same, fun dx2 nd2 ne2 => ⟨rfl, ?_⟩⟩⟩
  obtain ⟨t2, xa2⟩ := made2 (K := K) (f1 := f1) (f2 := f2) (v1 := v) (v2 := u) n2 nd2 ne2 T
  refine ⟨_, _, rfl, ?_⟩
  have t12 := t1.trans t2
  refine ⟨_, rfl, .inl ⟨rfl, _, SqL.of (t12 _ _ hL)⟩, ?_⟩
  refine ⟨_, rfl, _, rfl, a1, a2, C, _, _, n, rfl, hC, xat_same t2 xa1, xa2, fun H5 s5 => ?_⟩
  have hL5 := s5 _ _ (t12 _ _ hL)
  refine ⟨L, _, _, rfl, rfl, hL5, (by rw [pairs_len]; exact small200 (by omega)), ?_⟩
  have s6 : Same H0 (upd H5 L (.lst (pairs (listText (PyData.shownAll [d, e, d, e])) j ++ [.bl true]))) := same_upd2 (sm.trans (t12.trans s5)) nL
  have nx : ∀ {a : Addr} {fs : List (Str × V)}, XAt K H5 a C fs → XAt K (upd H5 L (.lst (pairs (listText (PyData.shownAll [d, e, d, e])) j ++ [.bl true]))) a C fs := by
    rintro a fs ⟨T', h⟩
    have ne : ∀ {b : Addr} {g : Heap → Prop}, H5 b = some (.ext g) → b ≠ L := fun {b g} h' z => by
      rw [z, hL5] at h'
      cases h'
    refine ⟨T', ?_⟩
    rcases h with ⟨e', h⟩ | ⟨dd, h1, h2⟩
    · exact .inl ⟨e', by rw [upd_ne (ne h)]; exact h⟩
    · exact .inr ⟨dd, by rw [upd_ne (ne h1)]; exact h1, by rw [upd_ne (ne h2)]; exact h2⟩
  have x1 := nx (xat_same (t2.trans s5) xa1)
  have x2 := nx (xat_same s5 xa2)
  have l1 : List.lookup f1 [(f2, u), (f1, v)] = some v := by simp [List.lookup, ff]
  have l2 : List.lookup f2 [(f2, u), (f1, v)] = some u := by simp [List.lookup]
  refine ⟨_, rfl, .inl ⟨rfl, _, SqL.of upd_same⟩, ?_⟩
  refine ⟨_, rfl, a1, C, _, v, rfl, x1, no1, l1, _, rfl, a1, C, _, u, rfl, x1, no2, l2, _, rfl, a2, C, _, v, rfl, x2, no1, l1, _, rfl, a2, C, _, u, rfl, x2, no2, l2, (by show 4 ≤ sizeLine; decide), fun l nl => ?_⟩
  have t6 := same_upd (o := .lst [v, u, v, u]) nl
  have dz6 := dz_same (s6.trans t6) dz
  have ez6 := dz_same (s6.trans t6) ez
  refine ⟨l, [v, u, v, u], [d, e, d, e], rfl, SqL.of upd_same, (fun z => by cases z), .cons dz6 (.cons ez6 (.cons dz6 (.cons ez6 .nil))), four_sh dsh esh, four_dp ddp edp, four_len dln eln, ?_⟩
  refine ⟨L, _, _, rfl, rfl, t6 _ _ upd_same, (by rw [List.length_append, pairs_len]; exact small200 (by show 2 * j + 1 ≤ 200; omega)), ?_⟩
  refine k a1 a2 _ ⟨same_upd2 (s6.trans t6) nL, ?_⟩
  rw [upd_same, pairs_succ]
theorem last2 {K : PySem.W.Frag} {D : Ends} {H0 H : Hp} {L : Addr} {v u : V} {d e : PyData} {n : Nat} {nI : Int} {σ : L2.St} (dz : Dz K H0 v d) (dsh : d.showable = true) (ddp : d.depth ≤ 3) (dln : d.shown.length ≤ 1000)
    (ez : Dz K H0 u e) (esh : e.showable = true) (edp : e.depth ≤ 3) (eln : e.shown.length ≤ 1000)
    (hn : nI = ((n : Nat) : Int)) (hn2 : n ≤ 50) (iv : Iv2 H0 L (listText (PyData.shownAll [d, e, d, e])) n H) (h0 : σ[0]? = some (some v)) (h1 : σ[1]? = some (some u)) (h2 : σ[2]? = some (some (.ref L))) (h5 : σ[5]? = some (some (.bl true))) (k : ∀ H', Same H0 H' → D.rt (.bl true) H') :
    tRet (tAndV (tVar 5) (tOp (rEqV K) (tVar 2) (tOp rRep (tLst (tCons (tC (.bl true)) (tCons (tCB (rRepr K) (tCons (tLst (tCons (tVar 0) (tCons (tVar 1) (tCons (tVar 0) (tCons (tVar 1) tNil))))) tNil)) tNil))) (tC (.int nI))))) D σ H := by
  subst hn
  obtain ⟨sm, hL⟩ := iv
  refine ⟨_, h5, true, rfl, iteT ?_⟩
  refine ⟨_, h2, _, h0, _, h1, _, h0, _, h1, (by show 4 ≤ sizeLine; decide), fun l nl => ?_⟩
  have t6 := same_upd (o := .lst [v, u, v, u]) nl
  have dz6 := dz_same (sm.trans t6) dz
  have ez6 := dz_same (sm.trans t6) ez
  refine ⟨l, [v, u, v, u], [d, e, d, e], rfl, SqL.of upd_same, (fun z => by cases z), .cons dz6 (.cons ez6 (.cons dz6 (.cons ez6 .nil))), four_sh dsh esh, four_dp ddp edp, four_len dln eln, ?_⟩
  refine ⟨(by show 2 ≤ sizeLine; decide), fun m nm => ?_⟩
  have t7 := same_upd (o := .lst [.bl true, .str (listText (PyData.shownAll [d, e, d, e]))]) nm
  refine ⟨m, (n : Int), _, rfl, rfl, upd_same, by omega, by omega, ?_, fun p np => ?_⟩
  · show 2 * n ≤ sizeLine
    have := small200 (n := n) (by omega)
    have h : sizeLine = 16777216 := sizeLine_eq
    omega
  have t8 := same_upd (o := .lst (pairs (listText (PyData.shownAll [d, e, d, e])) n)) np
  have t68 := t6.trans (t7.trans t8)
  refine ⟨2, by decide, .inl ⟨L, p, pairs (listText (PyData.shownAll [d, e, d, e])) n, pairs (listText (PyData.shownAll [d, e, d, e])) n, rfl, rfl, SqL.of (t68 _ _ hL), SqL.of upd_same, ?_⟩, k _ (sm.trans t68)⟩
  exact paired_self fun x hx => .inl ⟨rfl, pairs_flat _ _ x hx⟩
section
variable {P : Program} {w : World} {K : PySem.W.Frag} {mg : Str → Option Value} {base : Heap}
theorem scDb : FnScope ["_law_thing_here", "_law_last", "_law_told", "_law_first", "_law_second", "_law_plain"] ["_law_thing_here", "_law_last"] (defScope sDbl) := ⟨rfl, rfl, rfl, by decide +kernel, rfl, by decide +kernel, by decide +kernel⟩

theorem ok_dbl {f fA R c0 c1 c2 c3 c4 c5 c6 c7 c8 c9 c10 c11 c12 c13 c14 c15 c16 c17 c18 c19 c20 c21 : Addr} {fd fdA : FuncData} (F : Fun K "_law_double_right" "_law_double_right" sDbl f fd) (T : TxtX mg fA) (kA : PySem.W.keepIn K (.ref fA) = true)
    (GA : FnOk P w K mg base CX0 2 fA fdA ["_law_first", "_law_second", "_law_at", "_law_base"] (spAre K [c0, c1, c2, c3, c4, c5, c6, c7, c8, c9, c10, c11, c12, c13, c14, c15, c16, c17, c18, c19, c20, c21])) (bA : Binds K fdA ["_law_first", "_law_second", "_law_at", "_law_base"] [])
    (o2 : Two P w K mg base "InvalidTree" "reason" "value" c2) (o5 : Two P w K mg base "InvalidStep" "host" "kind" c5) (o14 : Two P w K mg base "EmptyChannel" "source" "goal" c14) (o16 : Two P w K mg base "NotLinked" "host" "other" c16) (o20 : Nil P w K mg base "NoNetwork" c20) : FnG P w K mg base CX0 3 f fd ["_law_thing_here", "_law_last"] (spTwo K) := by
  obtain ⟨i2, d2, X2, G2, B2, b2⟩ := o2.ex
  obtain ⟨i5, d5, X5, G5, B5, b5⟩ := o5.ex
  obtain ⟨i14, d14, X14, G14, B14, b14⟩ := o14.ex
  obtain ⟨i16, d16, X16, G16, B16, b16⟩ := o16.ex
  obtain ⟨i20, d20, X20, G20, B20⟩ := o20.ex
  refine fun_g0 F scDb (fun {vs H Q E} h => ?_) (fun cdv A outer s H vs Q E gd hr h => ?_)
  · obtain ⟨v, u, rfl, _⟩ := h
    rfl
  · obtain ⟨v, u, rfl, ⟨d, dz, dsh, ddp, dln⟩, ⟨e, ez, esh, edp, eln⟩, q⟩ := h
    have hu : (A.deeper (envOfC "_law_double_right" (defScope sDbl) s.heap.objs.size f cdv)).units + 70 < cLine := by
      have := hr.un
      omega
    have hu64 := hr.units
    refine ⟨_, pss_cons (ps_set (i := 2) scDb.nd rfl (.inl rfl) (pe_lst pa_nil))
      (pss_cons (ps_par (i := 3) (j := 4) (by rfl) scDb.nd rfl rfl (by decide) rfl rfl (pa_cons (pe_xm X2 G2 hr (by rfl) o2.gm B2 pass0 (pa_cons (pv 0) (pa_cons (pv 1) pa_nil))) (pa_cons (pe_xk X2 G2 hr (by rfl) o2.gm b2 pass0 (pk_cons (pv 1) (pk_cons (pv 0) pk_nil))) pa_nil)) (by rfl))
      (pss_cons (ps_expr (pe_bm PySem.F.plainAttrs_list PySem.F.slot_list_append PySem.F.type_list_append mt_append (pv 2) (pa_cons (pe_call GA hr (by rfl) T.gA kA bA .nil pass0 (pa_cons (pv 3) (pa_cons (pv 4) (pa_cons pe_int (pa_cons pe_str pa_nil))))) pa_nil)))
      (pss_cons (ps_expr (pe_bm PySem.F.plainAttrs_list PySem.F.slot_list_append PySem.F.type_list_append mt_append (pv 2) (pa_cons (pe_callB (repr_dz gd hu) (by rfl) T.repr (by decide +kernel) (pa_cons (pe_lst (pa_cons (pe_xf1 (pv 3)) (pa_cons (pe_xf1 (pv 3)) (pa_cons (pe_xf1 (pv 4)) (pa_cons (pe_xf1 (pv 4)) pa_nil))))) pa_nil)) pa_nil)))
      (pss_cons (ps_par (i := 3) (j := 4) (by rfl) scDb.nd rfl rfl (by decide) rfl rfl (pa_cons (pe_xm X5 G5 hr (by rfl) o5.gm B5 pass0 (pa_cons (pv 0) (pa_cons (pv 1) pa_nil))) (pa_cons (pe_xk X5 G5 hr (by rfl) o5.gm b5 pass0 (pk_cons (pv 1) (pk_cons (pv 0) pk_nil))) pa_nil)) (by rfl))
      (pss_cons (ps_expr (pe_bm PySem.F.plainAttrs_list PySem.F.slot_list_append PySem.F.type_list_append mt_append (pv 2) (pa_cons (pe_call GA hr (by rfl) T.gA kA bA .nil pass0 (pa_cons (pv 3) (pa_cons (pv 4) (pa_cons pe_int (pa_cons pe_str pa_nil))))) pa_nil)))
      (pss_cons (ps_expr (pe_bm PySem.F.plainAttrs_list PySem.F.slot_list_append PySem.F.type_list_append mt_append (pv 2) (pa_cons (pe_callB (repr_dz gd hu) (by rfl) T.repr (by decide +kernel) (pa_cons (pe_lst (pa_cons (pe_xf1 (pv 3)) (pa_cons (pe_xf1 (pv 3)) (pa_cons (pe_xf1 (pv 4)) (pa_cons (pe_xf1 (pv 4)) pa_nil))))) pa_nil)) pa_nil)))
      (pss_cons (ps_par (i := 3) (j := 4) (by rfl) scDb.nd rfl rfl (by decide) rfl rfl (pa_cons (pe_xm X14 G14 hr (by rfl) o14.gm B14 pass0 (pa_cons (pv 0) (pa_cons (pv 1) pa_nil))) (pa_cons (pe_xk X14 G14 hr (by rfl) o14.gm b14 pass0 (pk_cons (pv 1) (pk_cons (pv 0) pk_nil))) pa_nil)) (by rfl))
      (pss_cons (ps_expr (pe_bm PySem.F.plainAttrs_list PySem.F.slot_list_append PySem.F.type_list_append mt_append (pv 2) (pa_cons (pe_call GA hr (by rfl) T.gA kA bA .nil pass0 (pa_cons (pv 3) (pa_cons (pv 4) (pa_cons pe_int (pa_cons pe_str pa_nil))))) pa_nil)))
      (pss_cons (ps_expr (pe_bm PySem.F.plainAttrs_list PySem.F.slot_list_append PySem.F.type_list_append mt_append (pv 2) (pa_cons (pe_callB (repr_dz gd hu) (by rfl) T.repr (by decide +kernel) (pa_cons (pe_lst (pa_cons (pe_xf1 (pv 3)) (pa_cons (pe_xf1 (pv 3)) (pa_cons (pe_xf1 (pv 4)) (pa_cons (pe_xf1 (pv 4)) pa_nil))))) pa_nil)) pa_nil)))
      (pss_cons (ps_par (i := 3) (j := 4) (by rfl) scDb.nd rfl rfl (by decide) rfl rfl (pa_cons (pe_xm X16 G16 hr (by rfl) o16.gm B16 pass0 (pa_cons (pv 0) (pa_cons (pv 1) pa_nil))) (pa_cons (pe_xk X16 G16 hr (by rfl) o16.gm b16 pass0 (pk_cons (pv 1) (pk_cons (pv 0) pk_nil))) pa_nil)) (by rfl))
      (pss_cons (ps_expr (pe_bm PySem.F.plainAttrs_list PySem.F.slot_list_append PySem.F.type_list_append mt_append (pv 2) (pa_cons (pe_call GA hr (by rfl) T.gA kA bA .nil pass0 (pa_cons (pv 3) (pa_cons (pv 4) (pa_cons pe_int (pa_cons pe_str pa_nil))))) pa_nil)))
      (pss_cons (ps_expr (pe_bm PySem.F.plainAttrs_list PySem.F.slot_list_append PySem.F.type_list_append mt_append (pv 2) (pa_cons (pe_callB (repr_dz gd hu) (by rfl) T.repr (by decide +kernel) (pa_cons (pe_lst (pa_cons (pe_xf1 (pv 3)) (pa_cons (pe_xf1 (pv 3)) (pa_cons (pe_xf1 (pv 4)) (pa_cons (pe_xf1 (pv 4)) pa_nil))))) pa_nil)) pa_nil)))
      (pss_cons (ps_set (i := 5) scDb.nd rfl (.inl rfl) (pe_call GA hr (by rfl) T.gA kA bA .nil pass0 (pa_cons (pe_xm0 X20 G20 hr (by rfl) o20.gm B20 pass0) (pa_cons (pe_xm0 X20 G20 hr (by rfl) o20.gm B20 pass0) (pa_cons pe_int (pa_cons pe_str pa_nil))))))
      (pss_one (ps_ret (pe_and (pv 5) (pe_one (pe_cmpR (op_eqV hu64) (pv 2) (pe_op op_rep (pe_lst (pa_cons pe_bl (pa_cons (pe_callB (repr_dz gd hu) (by rfl) T.repr (by decide +kernel) (pa_cons (pe_lst (pa_cons (pv 0) (pa_cons (pv 1) (pa_cons (pv 0) (pa_cons (pv 1) pa_nil))))) pa_nil)) pa_nil))) pe_int) (nomark _))))))))))))))))))), ?_⟩
    refine ⟨Nat.zero_le _, fun L nL => ?_⟩
    have iv : Iv2 H L (listText (PyData.shownAll [d, e, d, e])) 0 (upd H L (.lst [])) := ⟨same_upd nL, upd_same⟩
    refine step2 (n := 2) (f1 := "reason") (f2 := "value") nL dz dsh ddp dln ez esh edp eln X2.toXCl o2.n1 o2.n2 (by decide +kernel) rfl rfl rfl (by decide) iv fun a1 a2 H' iv => ?_
    refine step2 (n := 5) (f1 := "host") (f2 := "kind") nL dz dsh ddp dln ez esh edp eln X5.toXCl o5.n1 o5.n2 (by decide +kernel) rfl rfl rfl (by decide) iv fun a1 a2 H' iv => ?_
    refine step2 (n := 14) (f1 := "source") (f2 := "goal") nL dz dsh ddp dln ez esh edp eln X14.toXCl o14.n1 o14.n2 (by decide +kernel) rfl rfl rfl (by decide) iv fun a1 a2 H' iv => ?_
    refine step2 (n := 16) (f1 := "host") (f2 := "other") nL dz dsh ddp dln ez esh edp eln X16.toXCl o16.n1 o16.n2 (by decide +kernel) rfl rfl rfl (by decide) iv fun a1 a2 H' iv => ?_
    obtain ⟨sm, hL⟩ := iv
    refine ⟨(by show 0 ≤ 1000; decide), fun a5 n5 => ⟨a5, rfl, rfl, ?_⟩⟩
    obtain ⟨t5, xa5⟩ := made0 (K := K) n5 X20.toXCl
    refine ⟨(by show 0 ≤ 1000; decide), fun a6 n6 => ⟨a6, rfl, rfl, ?_⟩⟩
    obtain ⟨t6, xa6⟩ := made0 (K := K) n6 X20.toXCl
    refine ⟨a5, a6, c20, _, _, 20, rfl, rfl, xat_same t6 xa5, xa6, fun H7 s7 => ?_⟩
    have t57 := t5.trans (t6.trans s7)
    exact last2 (n := 4) dz dsh ddp dln ez esh edp eln rfl (by decide) ⟨sm.trans t57, t57 _ _ hL⟩ rfl rfl rfl rfl fun H' s => q _ s
end
end My

namespace My
open PySem PySem.Spec PyProof.Rows L2 Gy Xl
abbrev sLaw : Stmt := top 33
theorem flags_none {R : Addr} {Cs : List Addr} (nd : (R :: Cs).Nodup) (len : Cs.length = 22) : (Cs.map fun D => (Value.ref R :: tailOf 0).contains (.ref D)) = List.replicate 22 false := by
  obtain ⟨nR, _⟩ := List.nodup_cons.mp nd
  refine List.eq_replicate_iff.mpr ⟨by rw [List.length_map, len], fun b hb => ?_⟩
  obtain ⟨D, hD, rfl⟩ := List.mem_map.mp hb
  rw [List.contains_cons, tail_ref, Bool.or_false]
  cases h : (Value.ref D == Value.ref R) with
  | false => rfl
  | true =>
    have e := Value.ref.inj (beq_iff_eq.mp h)
    exact absurd (e ▸ hD) nR
structure TxtW (mg : Str → Option Value) (fR fH fF f1 f2 f3 : Addr) : Prop where
  gR : mg "_law_rng" = some (.ref fR)
  gH : mg "_law_thing" = some (.ref fH)
  gF : mg "_law_flags" = some (.ref fF)
  g1 : mg "_law_single_right_1" = some (.ref f1)
  g2 : mg "_law_single_right_2" = some (.ref f2)
  g3 : mg "_law_double_right" = some (.ref f3)
  range : mg "range" = none
  max : mg "max" = none
  min : mg "min" = none
  len : mg "len" = none
  ve : mg "ValueError" = none
  isi : mg "isinstance" = none
section
variable {P : Program} {w : World} {K : PySem.W.Frag} {mg : Str → Option Value} {base : Heap}
def spLaw (K : PySem.W.Frag) : Sp := fun vs H Q _ => ∃ (a : Addr) (ns : List Int), vs = [.ref a] ∧ SqL K H a (ns.map V.int) ∧ ns.length ≤ 63 ∧ ∀ H', Q (.bl true) H'
theorem scL : FnScope ["_law_script", "_law_k", "_law_rng_here", "_law_first", "_law_second", "_law_plain"] ["_law_script"] (defScope sLaw) := ⟨rfl, rfl, rfl, by decide +kernel, rfl, by decide +kernel, by decide +kernel⟩
theorem ok_law {f fR fH fF f1 f2 f3 R : Addr} {Cs : List Addr} {fd fdR fdH fdF fd1 fd2 fd3 : FuncData} (F : Fun K "law" "law" sLaw f fd) (T : TxtW mg fR fH fF f1 f2 f3) (B : Tab K R Cs)
    (cg : PySem.W.specialIn K (.builtin "object.__class__") "__get__" = some (some (.builtin "getset_descriptor.__get__"))) (ct : PySem.W.takesIn K (.builtin "object.__class__") = some true)
    (gRR : mg "RelinkTreeError" = some (.ref R)) (hi : ∃ B newId initId bmB, ExcBaseFacts B newId initId bmB ∧ PySem.W.excInitIn K R bmB newId = true ∧ PySem.W.findIn K (.ref R) "__init__" = some (some (.builtin initId)))
    (kR : PySem.W.keepIn K (.ref fR) = true) (kH : PySem.W.keepIn K (.ref fH) = true) (kF : PySem.W.keepIn K (.ref fF) = true) (k1 : PySem.W.keepIn K (.ref f1) = true) (k2 : PySem.W.keepIn K (.ref f2) = true) (k3 : PySem.W.keepIn K (.ref f3) = true)
    (GR : FnOk P w K mg base CX0 1 fR fdR ["_law_script", "_law_k"] (spRng K)) (bR : Binds K fdR ["_law_script", "_law_k"] [])
    (GH : FnOk P w K mg base CX0 2 fH fdH ["_law_rng_here"] (spThing K)) (bH : Binds K fdH ["_law_rng_here"] [])
    (GF : FnOk P w K mg base CX0 1 fF fdF ["_law_e"] (spFlags K Cs)) (bF : Binds K fdF ["_law_e"] [])
    (G1 : FnG P w K mg base CX0 3 f1 fd1 ["_law_thing_here"] (spOne K)) (b1 : Binds K fd1 ["_law_thing_here"] [])
    (G2 : FnG P w K mg base CX0 3 f2 fd2 ["_law_thing_here"] (spOne K)) (b2 : Binds K fd2 ["_law_thing_here"] [])
    (G3 : FnG P w K mg base CX0 3 f3 fd3 ["_law_thing_here", "_law_last"] (spTwo K)) (b3 : Binds K fd3 ["_law_thing_here", "_law_last"] []) :
    FnG P w K mg base CX0 4 f fd ["_law_script"] (spLaw K) := by
  refine fun_g0 F scL (fun {vs H Q E} h => ?_) (fun cdv A outer s H vs Q E gd hr h => ?_)
  · obtain ⟨a, ns, rfl, _⟩ := h
    rfl
  · obtain ⟨a, ns, rfl, hS, hn, q⟩ := h
    have hr1 : Room 1 _ := hr.mono (by decide)
    have hr2 : Room 2 _ := hr.mono (by decide)
    have hu64 := hr.units
    refine ⟨_, pss_cons (ps_for PassesOwn.never rfl (pi_range1 (by rfl) T.range (pa_cons (pe_callB (call_max2 rfl) (by rfl) T.max (by decide +kernel) (pa_cons pe_int (pa_cons (pe_callB (call_min2 rfl) (by rfl) T.min (by decide +kernel)
          (pa_cons pe_int (pa_cons (pe_callB call_len_seq (by rfl) T.len PySem.boot_len (pa_cons (pv 0) pa_nil)) pa_nil))) pa_nil))) pa_nil)) (pg_name (i := 1) scL.nd rfl (.inl rfl))
        (pss_cons (ps_set (i := 2) scL.nd rfl (.inl rfl) (pe_call GR hr1 (by rfl) T.gR kR bR .nil pass0 (pa_cons (pv 0) (pa_cons (pv 1) pa_nil))))
        (pss_cons (ps_par (i := 3) (j := 4) (by rfl) scL.nd rfl rfl (by decide) rfl rfl (pa_cons (pe_call GH hr2 (by rfl) T.gH kH bH .nil pass0 (pa_cons (pv 2) pa_nil)) (pa_cons (pe_call GH hr2 (by rfl) T.gH kH bH .nil pass0 (pa_cons (pv 2) pa_nil)) pa_nil)) (by rfl))
        (pss_one (ps_if (PW.pt (pw_or (pt_not (pt_val (pe_callG G1 gd hr (by rfl) T.g1 k1 b1 (E := E0) pass0 (pa_cons (pv 3) pa_nil)))) (pw_or (pt_not (pt_val (pe_callG G2 gd hr (by rfl) T.g2 k2 b2 (E := E0) pass0 (pa_cons (pv 3) pa_nil))))
            (pw_or1 (pt_not (pt_val (pe_callG G3 gd hr (by rfl) T.g3 k3 b3 (E := E0) pass0 (pa_cons (pv 3) (pa_cons (pv 4) pa_nil)))))))))
          (pss_one (ps_ret pe_bl)) pss_nil)))))
      (pss_cons (ps_set (i := 5) scL.nd rfl (.inl rfl) (pe_xb B.r.x hi (by rfl) gRR (pa_cons pe_str pa_nil)))
      (pss_one (ps_ret (pe_and (pe_cmpR (op_eqD hu64) (pe_call GF hr1 (by rfl) T.gF kF bF .nil pass0 (pa_cons (pv 5) pa_nil)) (pe_op op_rep (pe_lst (pa_cons pe_bl pa_nil)) pe_int) (nomark _))
        (pe_one (pe_callB (call_isX cg ct) (by rfl) T.isi (by decide +kernel) (pa_cons (pv 5) (pa_cons (pe_bltn (v := .ty "ValueError") (by rfl) T.ve (by decide +kernel) rfl) pa_nil)))))))), ?_⟩
    refine ⟨_, rfl, a, _, rfl, .inl hS, 8, _, rfl, 1, _, rfl, _, rfl, ?_, ?_, ?_⟩
    · rw [List.length_map]
      split <;> split <;> omega
    · rw [List.length_map]
      split <;> split <;> omega
    · generalize hm : (Int.toNat _) = m
      have m12 : m ≤ 12 := by
        rw [List.length_map] at hm
        rw [← hm]
        split <;> split <;> omega
      refine for_it (walk_range (lo := 0) (n := m)) (fun i σ H' => Same H H' ∧ ∃ y1 y2 y3 y4 y5, σ = [some (.ref a), y1, y2, y3, y4, y5]) ⟨Same.refl _, _, _, _, _, _, rfl⟩ (fun _ _ _ _ _ => trivial) ?_ ?_
      · rintro i y σ H1 H2 hi' ⟨sm, y1, y2, y3, y4, y5, rfl⟩ ⟨rfl, rfl⟩
        refine ⟨_, rfl, _, rfl, a, ns, i, (by show [V.ref a, V.int (0 + (i : Int))] = _; rw [Int.zero_add]), sm.seq hS, by omega, fun H3 r s3 nr R3 => ?_⟩
        refine ⟨_, rfl, r, rfl, R3, fun H4 v b4 R4 pv4 => ?_⟩
        refine ⟨_, rfl, r, rfl, R4, fun H5 u b5 R5 pu5 => ?_⟩
        have pv5 : Pk K (rem H5 r) v := pv4.same (rem_but b5)
        have keep : Same H2 H5 := fun b o e => by
          have nb : b ≠ r := fun z => by
            rw [z, nr] at e
            cases e
          exact b5 b o nb (b4 b o nb (s3 b o e))
        refine ⟨_, _, rfl, ?_⟩
        refine ⟨_, rfl, v, rfl, pv5.same rem_same, fun H6 s6 => ⟨_, rfl, iteF ?_⟩⟩
        refine ⟨_, rfl, v, rfl, (pv5.same rem_same).same s6, fun H7 s7 => ⟨_, rfl, iteF ?_⟩⟩
        refine ⟨_, rfl, _, rfl, v, u, rfl, (pv5.same rem_same).same (s6.trans s7), (pu5.same rem_same).same (s6.trans s7), fun H8 s8 => ⟨_, rfl, iteF ?_⟩⟩
        exact ⟨(sm.trans keep).trans (s6.trans (s7.trans s8)), _, _, _, _, _, rfl⟩
      · rintro σ H1 ⟨sm, y1, y2, y3, y4, y5, rfl⟩
        refine ⟨(by show 1 ≤ 1000; decide), fun p np => ?_⟩
        have s2 := same_upd (o := exo p R none) np
        have xp : XAt K (upd H1 p (exo p R none)) p R [] := ⟨B.r.x, .inl ⟨rfl, upd_same⟩⟩
        have mc : (Value.ref R :: tailOf 0).contains (.ref R) = true := by
          rw [List.contains_cons, beq_self_eq_true]
          rfl
        refine ⟨_, rfl, p, R, [], _, rfl, xp, B.r, mc, fun H3 g s3 ng hg => ?_⟩
        rw [flags_none B.nd B.len] at hg
        refine ⟨(by show 1 ≤ sizeLine; decide), fun l nl => ?_⟩
        refine ⟨l, 22, _, rfl, rfl, upd_same, by decide, by decide, (by show 1 * 22 ≤ sizeLine; decide), fun k nk => ?_⟩
        have s4 := (same_upd (o := .lst [V.bl false]) nl).trans (same_upd (o := .lst (List.replicate (22 : Int).toNat [V.bl false]).flatten) nk)
        refine ⟨_, _, .lst (SqL.of (s4 _ _ hg)) (dp_bools _), .lst (SqL.of (xs := (List.replicate 22 false).map V.bl) upd_same) (dp_bools _), sh_bools _, sh_bools _, ?_⟩
        rw [eq_bools]
        refine ⟨true, rfl, iteT ?_⟩
        refine ⟨_, rfl, p, R, [], _, _, _, rfl, xat_same (s3.trans s4) xp, .ty "ValueError", kit_bt B.r (fun z => by cases z) (by decide +kernel), ?_⟩
        have e : (Value.ref R :: tailOf 0).contains (.type "ValueError") = true := by
          rw [List.contains_cons]
          show ((Value.type "ValueError" == Value.ref R) || (tailOf 0).contains (.type "ValueError")) = true
          rw [show (tailOf 0).contains (.type "ValueError") = true by decide +kernel, Bool.or_true]
        rw [e]
        exact q _
end
end My

namespace My
open PySem PySem.Spec PyProof.Rows L2 Gy Xl

def C1 (K : PySem.W.Frag) (R c : Addr) (k : Nat) (nm f : Str) : Prop := ClsOk K c (mroOf R c k) ∧ ∀ (P : Program) (w : World) (mg : Str → Option Value) (base : Heap), mg nm = some (.ref c) → One P w K mg base nm f c
def C2 (K : PySem.W.Frag) (R c : Addr) (k : Nat) (nm f1 f2 : Str) : Prop := ClsOk K c (mroOf R c k) ∧ ∀ (P : Program) (w : World) (mg : Str → Option Value) (base : Heap), mg nm = some (.ref c) → Two P w K mg base nm f1 f2 c
def C0 (K : PySem.W.Frag) (R c : Addr) (k : Nat) (nm : Str) : Prop := ClsOk K c (mroOf R c k) ∧ ∀ (P : Program) (w : World) (mg : Str → Option Value) (base : Heap), mg nm = some (.ref c) → Nil P w K mg base nm c
def CR (K : PySem.W.Frag) (R : Addr) : Prop := ClsOk K R (.ref R :: tailOf 0) ∧ ∃ B newId initId bmB, ExcBaseFacts B newId initId bmB ∧ PySem.W.excInitIn K R bmB newId = true ∧ PySem.W.findIn K (.ref R) "__init__" = some (some (.builtin initId))

theorem raw_0 {K : PySem.W.Frag} {R c fI : Addr} {cd : ClassData} {od an : Option Addr} {sl : Array (Option Value)} {oc kV dc pm cdv ct : Value} (ii : PySem.W.excInitIn K c [.type "ValueError", .type "Exception", .type "BaseException", .type "object"] "ValueError.__new__" = true) (ov : PySem.W.excOver K c [.type "ValueError", .type "Exception", .type "BaseException", .type "object"] = true) (sa : PySem.W.findIn K (.ref c) "__setattr__" = some (some (.builtin "object.__setattr__")))
    (ga : PySem.W.findIn K (.ref c) "__getattribute__" = some (some (.builtin "BaseException.__getattribute__"))) (gg : PySem.W.findIn K (.ref c) "__getattr__" = some none) (ca : PySem.W.findIn K (.ref c) "__class__" = some (some (.builtin "object.__class__")))
    (ex : PySem.W.subIn K (.ref c) (.type "BaseException") = some true) (ob : PySem.W.mroIn K c (.type "object") = some true) (hd : PySem.W.hasDictIn K c = true) (kp : PySem.W.keepIn K (.ref c) = true) (cl : PySem.W.clsIn K c = some cd)
    (mr : cd.mro = mroOf R c 0) (ty : PySem.W.typeIn K (.ref c) = some (.type "type")) (ini : PySem.W.findIn K (.ref c) "__init__" = some (some (.ref fI))) (tf : PySem.W.typeIn K (.ref fI) = some (.type "function"))
    (li : K.lookup fI = some ⟨oc, od, .func (PySem.W.fnOf "__init__" "InvalidName.__init__" (defArgs sI0) (defBody sI0) (defScope sI0) .none kV dc pm an cdv ct), sl⟩) (ci : PySem.W.codeIn K cdv "InvalidName.__init__" = true) (ki : PySem.W.keepIn K (.ref fI) = true) (n0 : PySem.W.findIn K (.ref c) "value" = some none) : C1 K R c 0 "InvalidName" "value" := by
  have X : XCl K c := ⟨⟨_, _, _, _, PySem.F.excBase_ValueError, PySem.F.store_ValueError, ii, ov⟩, sa, ga, gg, ca, ex, ob, hd, kp⟩
  have F := fun_mk (st := sI0) li ci ki
  refine ⟨⟨X, ⟨cd, cl, mr⟩, ty⟩, fun P w mg base gm => ?_⟩
  exact ⟨gm, n0, fI, _, ⟨X, ini, tf⟩, ok_I0 F X n0, xp_I0 F, xk_I0 F⟩
theorem raw_1 {K : PySem.W.Frag} {R c fI : Addr} {cd : ClassData} {od an : Option Addr} {sl : Array (Option Value)} {oc kV dc pm cdv ct : Value} (ii : PySem.W.excInitIn K c [.type "ValueError", .type "Exception", .type "BaseException", .type "object"] "ValueError.__new__" = true) (ov : PySem.W.excOver K c [.type "ValueError", .type "Exception", .type "BaseException", .type "object"] = true) (sa : PySem.W.findIn K (.ref c) "__setattr__" = some (some (.builtin "object.__setattr__")))
    (ga : PySem.W.findIn K (.ref c) "__getattribute__" = some (some (.builtin "BaseException.__getattribute__"))) (gg : PySem.W.findIn K (.ref c) "__getattr__" = some none) (ca : PySem.W.findIn K (.ref c) "__class__" = some (some (.builtin "object.__class__")))
    (ex : PySem.W.subIn K (.ref c) (.type "BaseException") = some true) (ob : PySem.W.mroIn K c (.type "object") = some true) (hd : PySem.W.hasDictIn K c = true) (kp : PySem.W.keepIn K (.ref c) = true) (cl : PySem.W.clsIn K c = some cd)
    (mr : cd.mro = mroOf R c 0) (ty : PySem.W.typeIn K (.ref c) = some (.type "type")) (ini : PySem.W.findIn K (.ref c) "__init__" = some (some (.ref fI))) (tf : PySem.W.typeIn K (.ref fI) = some (.type "function"))
    (li : K.lookup fI = some ⟨oc, od, .func (PySem.W.fnOf "__init__" "InvalidWord.__init__" (defArgs sI1) (defBody sI1) (defScope sI1) .none kV dc pm an cdv ct), sl⟩) (ci : PySem.W.codeIn K cdv "InvalidWord.__init__" = true) (ki : PySem.W.keepIn K (.ref fI) = true) (n0 : PySem.W.findIn K (.ref c) "value" = some none) : C1 K R c 0 "InvalidWord" "value" := by
  have X : XCl K c := ⟨⟨_, _, _, _, PySem.F.excBase_ValueError, PySem.F.store_ValueError, ii, ov⟩, sa, ga, gg, ca, ex, ob, hd, kp⟩
  have F := fun_mk (st := sI1) li ci ki
  refine ⟨⟨X, ⟨cd, cl, mr⟩, ty⟩, fun P w mg base gm => ?_⟩
  exact ⟨gm, n0, fI, _, ⟨X, ini, tf⟩, ok_I1 F X n0, xp_I1 F, xk_I1 F⟩
theorem raw_2 {K : PySem.W.Frag} {R c fI : Addr} {cd : ClassData} {od an : Option Addr} {sl : Array (Option Value)} {oc kV dc pm cdv ct : Value} (ii : PySem.W.excInitIn K c [.type "ValueError", .type "Exception", .type "BaseException", .type "object"] "ValueError.__new__" = true) (ov : PySem.W.excOver K c [.type "ValueError", .type "Exception", .type "BaseException", .type "object"] = true) (sa : PySem.W.findIn K (.ref c) "__setattr__" = some (some (.builtin "object.__setattr__")))
    (ga : PySem.W.findIn K (.ref c) "__getattribute__" = some (some (.builtin "BaseException.__getattribute__"))) (gg : PySem.W.findIn K (.ref c) "__getattr__" = some none) (ca : PySem.W.findIn K (.ref c) "__class__" = some (some (.builtin "object.__class__")))
    (ex : PySem.W.subIn K (.ref c) (.type "BaseException") = some true) (ob : PySem.W.mroIn K c (.type "object") = some true) (hd : PySem.W.hasDictIn K c = true) (kp : PySem.W.keepIn K (.ref c) = true) (cl : PySem.W.clsIn K c = some cd)
    (mr : cd.mro = mroOf R c 0) (ty : PySem.W.typeIn K (.ref c) = some (.type "type")) (ini : PySem.W.findIn K (.ref c) "__init__" = some (some (.ref fI))) (tf : PySem.W.typeIn K (.ref fI) = some (.type "function"))
    (li : K.lookup fI = some ⟨oc, od, .func (PySem.W.fnOf "__init__" "InvalidTree.__init__" (defArgs sI2) (defBody sI2) (defScope sI2) .none kV dc pm an cdv ct), sl⟩) (ci : PySem.W.codeIn K cdv "InvalidTree.__init__" = true) (ki : PySem.W.keepIn K (.ref fI) = true) (n0 : PySem.W.findIn K (.ref c) "reason" = some none) (n1 : PySem.W.findIn K (.ref c) "value" = some none) : C2 K R c 0 "InvalidTree" "reason" "value" := by
  have X : XCl K c := ⟨⟨_, _, _, _, PySem.F.excBase_ValueError, PySem.F.store_ValueError, ii, ov⟩, sa, ga, gg, ca, ex, ob, hd, kp⟩
  have F := fun_mk (st := sI2) li ci ki
  refine ⟨⟨X, ⟨cd, cl, mr⟩, ty⟩, fun P w mg base gm => ?_⟩
  exact ⟨gm, n0, n1, fI, _, ⟨X, ini, tf⟩, ok_I2 F X n0 n1, xp_I2 F, xk_I2 F⟩
theorem raw_3 {K : PySem.W.Frag} {R c fI : Addr} {cd : ClassData} {od an : Option Addr} {sl : Array (Option Value)} {oc kV dc pm cdv ct : Value} (ii : PySem.W.excInitIn K c [.type "ValueError", .type "Exception", .type "BaseException", .type "object"] "ValueError.__new__" = true) (ov : PySem.W.excOver K c [.type "ValueError", .type "Exception", .type "BaseException", .type "object"] = true) (sa : PySem.W.findIn K (.ref c) "__setattr__" = some (some (.builtin "object.__setattr__")))
    (ga : PySem.W.findIn K (.ref c) "__getattribute__" = some (some (.builtin "BaseException.__getattribute__"))) (gg : PySem.W.findIn K (.ref c) "__getattr__" = some none) (ca : PySem.W.findIn K (.ref c) "__class__" = some (some (.builtin "object.__class__")))
    (ex : PySem.W.subIn K (.ref c) (.type "BaseException") = some true) (ob : PySem.W.mroIn K c (.type "object") = some true) (hd : PySem.W.hasDictIn K c = true) (kp : PySem.W.keepIn K (.ref c) = true) (cl : PySem.W.clsIn K c = some cd)
    (mr : cd.mro = mroOf R c 0) (ty : PySem.W.typeIn K (.ref c) = some (.type "type")) (ini : PySem.W.findIn K (.ref c) "__init__" = some (some (.ref fI))) (tf : PySem.W.typeIn K (.ref fI) = some (.type "function"))
    (li : K.lookup fI = some ⟨oc, od, .func (PySem.W.fnOf "__init__" "InvalidRelink.__init__" (defArgs sI3) (defBody sI3) (defScope sI3) .none kV dc pm an cdv ct), sl⟩) (ci : PySem.W.codeIn K cdv "InvalidRelink.__init__" = true) (ki : PySem.W.keepIn K (.ref fI) = true) (n0 : PySem.W.findIn K (.ref c) "value" = some none) : C1 K R c 0 "InvalidRelink" "value" := by
  have X : XCl K c := ⟨⟨_, _, _, _, PySem.F.excBase_ValueError, PySem.F.store_ValueError, ii, ov⟩, sa, ga, gg, ca, ex, ob, hd, kp⟩
  have F := fun_mk (st := sI3) li ci ki
  refine ⟨⟨X, ⟨cd, cl, mr⟩, ty⟩, fun P w mg base gm => ?_⟩
  exact ⟨gm, n0, fI, _, ⟨X, ini, tf⟩, ok_I3 F X n0, xp_I3 F, xk_I3 F⟩
theorem raw_4 {K : PySem.W.Frag} {R c fI : Addr} {cd : ClassData} {od an : Option Addr} {sl : Array (Option Value)} {oc kV dc pm cdv ct : Value} (ii : PySem.W.excInitIn K c [.type "ValueError", .type "Exception", .type "BaseException", .type "object"] "ValueError.__new__" = true) (ov : PySem.W.excOver K c [.type "ValueError", .type "Exception", .type "BaseException", .type "object"] = true) (sa : PySem.W.findIn K (.ref c) "__setattr__" = some (some (.builtin "object.__setattr__")))
    (ga : PySem.W.findIn K (.ref c) "__getattribute__" = some (some (.builtin "BaseException.__getattribute__"))) (gg : PySem.W.findIn K (.ref c) "__getattr__" = some none) (ca : PySem.W.findIn K (.ref c) "__class__" = some (some (.builtin "object.__class__")))
    (ex : PySem.W.subIn K (.ref c) (.type "BaseException") = some true) (ob : PySem.W.mroIn K c (.type "object") = some true) (hd : PySem.W.hasDictIn K c = true) (kp : PySem.W.keepIn K (.ref c) = true) (cl : PySem.W.clsIn K c = some cd)
    (mr : cd.mro = mroOf R c 0) (ty : PySem.W.typeIn K (.ref c) = some (.type "type")) (ini : PySem.W.findIn K (.ref c) "__init__" = some (some (.ref fI))) (tf : PySem.W.typeIn K (.ref fI) = some (.type "function"))
    (li : K.lookup fI = some ⟨oc, od, .func (PySem.W.fnOf "__init__" "InvalidItem.__init__" (defArgs sI4) (defBody sI4) (defScope sI4) .none kV dc pm an cdv ct), sl⟩) (ci : PySem.W.codeIn K cdv "InvalidItem.__init__" = true) (ki : PySem.W.keepIn K (.ref fI) = true) (n0 : PySem.W.findIn K (.ref c) "value" = some none) : C1 K R c 0 "InvalidItem" "value" := by
  have X : XCl K c := ⟨⟨_, _, _, _, PySem.F.excBase_ValueError, PySem.F.store_ValueError, ii, ov⟩, sa, ga, gg, ca, ex, ob, hd, kp⟩
  have F := fun_mk (st := sI4) li ci ki
  refine ⟨⟨X, ⟨cd, cl, mr⟩, ty⟩, fun P w mg base gm => ?_⟩
  exact ⟨gm, n0, fI, _, ⟨X, ini, tf⟩, ok_I4 F X n0, xp_I4 F, xk_I4 F⟩
theorem raw_5 {K : PySem.W.Frag} {R c fI : Addr} {cd : ClassData} {od an : Option Addr} {sl : Array (Option Value)} {oc kV dc pm cdv ct : Value} (ii : PySem.W.excInitIn K c [.type "ValueError", .type "Exception", .type "BaseException", .type "object"] "ValueError.__new__" = true) (ov : PySem.W.excOver K c [.type "ValueError", .type "Exception", .type "BaseException", .type "object"] = true) (sa : PySem.W.findIn K (.ref c) "__setattr__" = some (some (.builtin "object.__setattr__")))
    (ga : PySem.W.findIn K (.ref c) "__getattribute__" = some (some (.builtin "BaseException.__getattribute__"))) (gg : PySem.W.findIn K (.ref c) "__getattr__" = some none) (ca : PySem.W.findIn K (.ref c) "__class__" = some (some (.builtin "object.__class__")))
    (ex : PySem.W.subIn K (.ref c) (.type "BaseException") = some true) (ob : PySem.W.mroIn K c (.type "object") = some true) (hd : PySem.W.hasDictIn K c = true) (kp : PySem.W.keepIn K (.ref c) = true) (cl : PySem.W.clsIn K c = some cd)
    (mr : cd.mro = mroOf R c 0) (ty : PySem.W.typeIn K (.ref c) = some (.type "type")) (ini : PySem.W.findIn K (.ref c) "__init__" = some (some (.ref fI))) (tf : PySem.W.typeIn K (.ref fI) = some (.type "function"))
    (li : K.lookup fI = some ⟨oc, od, .func (PySem.W.fnOf "__init__" "InvalidStep.__init__" (defArgs sI5) (defBody sI5) (defScope sI5) .none kV dc pm an cdv ct), sl⟩) (ci : PySem.W.codeIn K cdv "InvalidStep.__init__" = true) (ki : PySem.W.keepIn K (.ref fI) = true) (n0 : PySem.W.findIn K (.ref c) "host" = some none) (n1 : PySem.W.findIn K (.ref c) "kind" = some none) : C2 K R c 0 "InvalidStep" "host" "kind" := by
  have X : XCl K c := ⟨⟨_, _, _, _, PySem.F.excBase_ValueError, PySem.F.store_ValueError, ii, ov⟩, sa, ga, gg, ca, ex, ob, hd, kp⟩
  have F := fun_mk (st := sI5) li ci ki
  refine ⟨⟨X, ⟨cd, cl, mr⟩, ty⟩, fun P w mg base gm => ?_⟩
  exact ⟨gm, n0, n1, fI, _, ⟨X, ini, tf⟩, ok_I5 F X n0 n1, xp_I5 F, xk_I5 F⟩
theorem raw_6 {K : PySem.W.Frag} {R c fI : Addr} {cd : ClassData} {od an : Option Addr} {sl : Array (Option Value)} {oc kV dc pm cdv ct : Value} (ii : PySem.W.excInitIn K c [.type "ValueError", .type "Exception", .type "BaseException", .type "object"] "ValueError.__new__" = true) (ov : PySem.W.excOver K c [.type "ValueError", .type "Exception", .type "BaseException", .type "object"] = true) (sa : PySem.W.findIn K (.ref c) "__setattr__" = some (some (.builtin "object.__setattr__")))
    (ga : PySem.W.findIn K (.ref c) "__getattribute__" = some (some (.builtin "BaseException.__getattribute__"))) (gg : PySem.W.findIn K (.ref c) "__getattr__" = some none) (ca : PySem.W.findIn K (.ref c) "__class__" = some (some (.builtin "object.__class__")))
    (ex : PySem.W.subIn K (.ref c) (.type "BaseException") = some true) (ob : PySem.W.mroIn K c (.type "object") = some true) (hd : PySem.W.hasDictIn K c = true) (kp : PySem.W.keepIn K (.ref c) = true) (cl : PySem.W.clsIn K c = some cd)
    (mr : cd.mro = mroOf R c 0) (ty : PySem.W.typeIn K (.ref c) = some (.type "type")) (ini : PySem.W.findIn K (.ref c) "__init__" = some (some (.ref fI))) (tf : PySem.W.typeIn K (.ref fI) = some (.type "function"))
    (li : K.lookup fI = some ⟨oc, od, .func (PySem.W.fnOf "__init__" "InvalidEvent.__init__" (defArgs sI6) (defBody sI6) (defScope sI6) .none kV dc pm an cdv ct), sl⟩) (ci : PySem.W.codeIn K cdv "InvalidEvent.__init__" = true) (ki : PySem.W.keepIn K (.ref fI) = true) (n0 : PySem.W.findIn K (.ref c) "value" = some none) : C1 K R c 0 "InvalidEvent" "value" := by
  have X : XCl K c := ⟨⟨_, _, _, _, PySem.F.excBase_ValueError, PySem.F.store_ValueError, ii, ov⟩, sa, ga, gg, ca, ex, ob, hd, kp⟩
  have F := fun_mk (st := sI6) li ci ki
  refine ⟨⟨X, ⟨cd, cl, mr⟩, ty⟩, fun P w mg base gm => ?_⟩
  exact ⟨gm, n0, fI, _, ⟨X, ini, tf⟩, ok_I6 F X n0, xp_I6 F, xk_I6 F⟩
theorem raw_7 {K : PySem.W.Frag} {R c fI : Addr} {cd : ClassData} {od an : Option Addr} {sl : Array (Option Value)} {oc kV dc pm cdv ct : Value} (ii : PySem.W.excInitIn K c [.type "ValueError", .type "Exception", .type "BaseException", .type "object"] "ValueError.__new__" = true) (ov : PySem.W.excOver K c [.type "ValueError", .type "Exception", .type "BaseException", .type "object"] = true) (sa : PySem.W.findIn K (.ref c) "__setattr__" = some (some (.builtin "object.__setattr__")))
    (ga : PySem.W.findIn K (.ref c) "__getattribute__" = some (some (.builtin "BaseException.__getattribute__"))) (gg : PySem.W.findIn K (.ref c) "__getattr__" = some none) (ca : PySem.W.findIn K (.ref c) "__class__" = some (some (.builtin "object.__class__")))
    (ex : PySem.W.subIn K (.ref c) (.type "BaseException") = some true) (ob : PySem.W.mroIn K c (.type "object") = some true) (hd : PySem.W.hasDictIn K c = true) (kp : PySem.W.keepIn K (.ref c) = true) (cl : PySem.W.clsIn K c = some cd)
    (mr : cd.mro = mroOf R c 0) (ty : PySem.W.typeIn K (.ref c) = some (.type "type")) (ini : PySem.W.findIn K (.ref c) "__init__" = some (some (.ref fI))) (tf : PySem.W.typeIn K (.ref fI) = some (.type "function"))
    (li : K.lookup fI = some ⟨oc, od, .func (PySem.W.fnOf "__init__" "InvalidChoice.__init__" (defArgs sI7) (defBody sI7) (defScope sI7) .none kV dc pm an cdv ct), sl⟩) (ci : PySem.W.codeIn K cdv "InvalidChoice.__init__" = true) (ki : PySem.W.keepIn K (.ref fI) = true) (n0 : PySem.W.findIn K (.ref c) "value" = some none) : C1 K R c 0 "InvalidChoice" "value" := by
  have X : XCl K c := ⟨⟨_, _, _, _, PySem.F.excBase_ValueError, PySem.F.store_ValueError, ii, ov⟩, sa, ga, gg, ca, ex, ob, hd, kp⟩
  have F := fun_mk (st := sI7) li ci ki
  refine ⟨⟨X, ⟨cd, cl, mr⟩, ty⟩, fun P w mg base gm => ?_⟩
  exact ⟨gm, n0, fI, _, ⟨X, ini, tf⟩, ok_I7 F X n0, xp_I7 F, xk_I7 F⟩
theorem raw_8 {K : PySem.W.Frag} {R c fI : Addr} {cd : ClassData} {od an : Option Addr} {sl : Array (Option Value)} {oc kV dc pm cdv ct : Value} (ii : PySem.W.excInitIn K c [.type "ValueError", .type "Exception", .type "BaseException", .type "object"] "ValueError.__new__" = true) (ov : PySem.W.excOver K c [.type "ValueError", .type "Exception", .type "BaseException", .type "object"] = true) (sa : PySem.W.findIn K (.ref c) "__setattr__" = some (some (.builtin "object.__setattr__")))
    (ga : PySem.W.findIn K (.ref c) "__getattribute__" = some (some (.builtin "BaseException.__getattribute__"))) (gg : PySem.W.findIn K (.ref c) "__getattr__" = some none) (ca : PySem.W.findIn K (.ref c) "__class__" = some (some (.builtin "object.__class__")))
    (ex : PySem.W.subIn K (.ref c) (.type "BaseException") = some true) (ob : PySem.W.mroIn K c (.type "object") = some true) (hd : PySem.W.hasDictIn K c = true) (kp : PySem.W.keepIn K (.ref c) = true) (cl : PySem.W.clsIn K c = some cd)
    (mr : cd.mro = mroOf R c 0) (ty : PySem.W.typeIn K (.ref c) = some (.type "type")) (ini : PySem.W.findIn K (.ref c) "__init__" = some (some (.ref fI))) (tf : PySem.W.typeIn K (.ref fI) = some (.type "function"))
    (li : K.lookup fI = some ⟨oc, od, .func (PySem.W.fnOf "__init__" "InvalidScript.__init__" (defArgs sI8) (defBody sI8) (defScope sI8) .none kV dc pm an cdv ct), sl⟩) (ci : PySem.W.codeIn K cdv "InvalidScript.__init__" = true) (ki : PySem.W.keepIn K (.ref fI) = true) (n0 : PySem.W.findIn K (.ref c) "value" = some none) : C1 K R c 0 "InvalidScript" "value" := by
  have X : XCl K c := ⟨⟨_, _, _, _, PySem.F.excBase_ValueError, PySem.F.store_ValueError, ii, ov⟩, sa, ga, gg, ca, ex, ob, hd, kp⟩
  have F := fun_mk (st := sI8) li ci ki
  refine ⟨⟨X, ⟨cd, cl, mr⟩, ty⟩, fun P w mg base gm => ?_⟩
  exact ⟨gm, n0, fI, _, ⟨X, ini, tf⟩, ok_I8 F X n0, xp_I8 F, xk_I8 F⟩
theorem raw_9 {K : PySem.W.Frag} {R c fI : Addr} {cd : ClassData} {od an : Option Addr} {sl : Array (Option Value)} {oc kV dc pm cdv ct : Value} (ii : PySem.W.excInitIn K c [.type "ValueError", .type "Exception", .type "BaseException", .type "object"] "ValueError.__new__" = true) (ov : PySem.W.excOver K c [.type "ValueError", .type "Exception", .type "BaseException", .type "object"] = true) (sa : PySem.W.findIn K (.ref c) "__setattr__" = some (some (.builtin "object.__setattr__")))
    (ga : PySem.W.findIn K (.ref c) "__getattribute__" = some (some (.builtin "BaseException.__getattribute__"))) (gg : PySem.W.findIn K (.ref c) "__getattr__" = some none) (ca : PySem.W.findIn K (.ref c) "__class__" = some (some (.builtin "object.__class__")))
    (ex : PySem.W.subIn K (.ref c) (.type "BaseException") = some true) (ob : PySem.W.mroIn K c (.type "object") = some true) (hd : PySem.W.hasDictIn K c = true) (kp : PySem.W.keepIn K (.ref c) = true) (cl : PySem.W.clsIn K c = some cd)
    (mr : cd.mro = mroOf R c 0) (ty : PySem.W.typeIn K (.ref c) = some (.type "type")) (ini : PySem.W.findIn K (.ref c) "__init__" = some (some (.ref fI))) (tf : PySem.W.typeIn K (.ref fI) = some (.type "function"))
    (li : K.lookup fI = some ⟨oc, od, .func (PySem.W.fnOf "__init__" "InvalidPlan.__init__" (defArgs sI9) (defBody sI9) (defScope sI9) .none kV dc pm an cdv ct), sl⟩) (ci : PySem.W.codeIn K cdv "InvalidPlan.__init__" = true) (ki : PySem.W.keepIn K (.ref fI) = true) (n0 : PySem.W.findIn K (.ref c) "index" = some none) : C1 K R c 0 "InvalidPlan" "index" := by
  have X : XCl K c := ⟨⟨_, _, _, _, PySem.F.excBase_ValueError, PySem.F.store_ValueError, ii, ov⟩, sa, ga, gg, ca, ex, ob, hd, kp⟩
  have F := fun_mk (st := sI9) li ci ki
  refine ⟨⟨X, ⟨cd, cl, mr⟩, ty⟩, fun P w mg base gm => ?_⟩
  exact ⟨gm, n0, fI, _, ⟨X, ini, tf⟩, ok_I9 F X n0, xp_I9 F, xk_I9 F⟩
theorem raw_10 {K : PySem.W.Frag} {R c fI : Addr} {cd : ClassData} {od an : Option Addr} {sl : Array (Option Value)} {oc kV dc pm cdv ct : Value} (ii : PySem.W.excInitIn K c [.type "ValueError", .type "Exception", .type "BaseException", .type "object"] "ValueError.__new__" = true) (ov : PySem.W.excOver K c [.type "ValueError", .type "Exception", .type "BaseException", .type "object"] = true) (sa : PySem.W.findIn K (.ref c) "__setattr__" = some (some (.builtin "object.__setattr__")))
    (ga : PySem.W.findIn K (.ref c) "__getattribute__" = some (some (.builtin "BaseException.__getattribute__"))) (gg : PySem.W.findIn K (.ref c) "__getattr__" = some none) (ca : PySem.W.findIn K (.ref c) "__class__" = some (some (.builtin "object.__class__")))
    (ex : PySem.W.subIn K (.ref c) (.type "BaseException") = some true) (ob : PySem.W.mroIn K c (.type "object") = some true) (hd : PySem.W.hasDictIn K c = true) (kp : PySem.W.keepIn K (.ref c) = true) (cl : PySem.W.clsIn K c = some cd)
    (mr : cd.mro = mroOf R c 0) (ty : PySem.W.typeIn K (.ref c) = some (.type "type")) (ini : PySem.W.findIn K (.ref c) "__init__" = some (some (.ref fI))) (tf : PySem.W.typeIn K (.ref fI) = some (.type "function"))
    (li : K.lookup fI = some ⟨oc, od, .func (PySem.W.fnOf "__init__" "InvalidText.__init__" (defArgs sI10) (defBody sI10) (defScope sI10) .none kV dc pm an cdv ct), sl⟩) (ci : PySem.W.codeIn K cdv "InvalidText.__init__" = true) (ki : PySem.W.keepIn K (.ref fI) = true) (n0 : PySem.W.findIn K (.ref c) "value" = some none) : C1 K R c 0 "InvalidText" "value" := by
  have X : XCl K c := ⟨⟨_, _, _, _, PySem.F.excBase_ValueError, PySem.F.store_ValueError, ii, ov⟩, sa, ga, gg, ca, ex, ob, hd, kp⟩
  have F := fun_mk (st := sI10) li ci ki
  refine ⟨⟨X, ⟨cd, cl, mr⟩, ty⟩, fun P w mg base gm => ?_⟩
  exact ⟨gm, n0, fI, _, ⟨X, ini, tf⟩, ok_I10 F X n0, xp_I10 F, xk_I10 F⟩
theorem raw_11 {K : PySem.W.Frag} {R c fI : Addr} {cd : ClassData} {od an : Option Addr} {sl : Array (Option Value)} {oc kV dc pm cdv ct : Value} (ii : PySem.W.excInitIn K c [.type "ValueError", .type "Exception", .type "BaseException", .type "object"] "ValueError.__new__" = true) (ov : PySem.W.excOver K c [.type "ValueError", .type "Exception", .type "BaseException", .type "object"] = true) (sa : PySem.W.findIn K (.ref c) "__setattr__" = some (some (.builtin "object.__setattr__")))
    (ga : PySem.W.findIn K (.ref c) "__getattribute__" = some (some (.builtin "BaseException.__getattribute__"))) (gg : PySem.W.findIn K (.ref c) "__getattr__" = some none) (ca : PySem.W.findIn K (.ref c) "__class__" = some (some (.builtin "object.__class__")))
    (ex : PySem.W.subIn K (.ref c) (.type "BaseException") = some true) (ob : PySem.W.mroIn K c (.type "object") = some true) (hd : PySem.W.hasDictIn K c = true) (kp : PySem.W.keepIn K (.ref c) = true) (cl : PySem.W.clsIn K c = some cd)
    (mr : cd.mro = mroOf R c 0) (ty : PySem.W.typeIn K (.ref c) = some (.type "type")) (ini : PySem.W.findIn K (.ref c) "__init__" = some (some (.ref fI))) (tf : PySem.W.typeIn K (.ref fI) = some (.type "function"))
    (li : K.lookup fI = some ⟨oc, od, .func (PySem.W.fnOf "__init__" "InvalidLine.__init__" (defArgs sI11) (defBody sI11) (defScope sI11) .none kV dc pm an cdv ct), sl⟩) (ci : PySem.W.codeIn K cdv "InvalidLine.__init__" = true) (ki : PySem.W.keepIn K (.ref fI) = true) (n0 : PySem.W.findIn K (.ref c) "line" = some none) : C1 K R c 0 "InvalidLine" "line" := by
  have X : XCl K c := ⟨⟨_, _, _, _, PySem.F.excBase_ValueError, PySem.F.store_ValueError, ii, ov⟩, sa, ga, gg, ca, ex, ob, hd, kp⟩
  have F := fun_mk (st := sI11) li ci ki
  refine ⟨⟨X, ⟨cd, cl, mr⟩, ty⟩, fun P w mg base gm => ?_⟩
  exact ⟨gm, n0, fI, _, ⟨X, ini, tf⟩, ok_I11 F X n0, xp_I11 F, xk_I11 F⟩
theorem raw_12 {K : PySem.W.Frag} {R c fI : Addr} {cd : ClassData} {od an : Option Addr} {sl : Array (Option Value)} {oc kV dc pm cdv ct : Value} (ii : PySem.W.excInitIn K c [.type "ValueError", .type "Exception", .type "BaseException", .type "object"] "ValueError.__new__" = true) (ov : PySem.W.excOver K c [.type "ValueError", .type "Exception", .type "BaseException", .type "object"] = true) (sa : PySem.W.findIn K (.ref c) "__setattr__" = some (some (.builtin "object.__setattr__")))
    (ga : PySem.W.findIn K (.ref c) "__getattribute__" = some (some (.builtin "BaseException.__getattribute__"))) (gg : PySem.W.findIn K (.ref c) "__getattr__" = some none) (ca : PySem.W.findIn K (.ref c) "__class__" = some (some (.builtin "object.__class__")))
    (ex : PySem.W.subIn K (.ref c) (.type "BaseException") = some true) (ob : PySem.W.mroIn K c (.type "object") = some true) (hd : PySem.W.hasDictIn K c = true) (kp : PySem.W.keepIn K (.ref c) = true) (cl : PySem.W.clsIn K c = some cd)
    (mr : cd.mro = mroOf R c 0) (ty : PySem.W.typeIn K (.ref c) = some (.type "type")) (ini : PySem.W.findIn K (.ref c) "__init__" = some (some (.ref fI))) (tf : PySem.W.typeIn K (.ref fI) = some (.type "function"))
    (li : K.lookup fI = some ⟨oc, od, .func (PySem.W.fnOf "__init__" "InvalidCommand.__init__" (defArgs sI12) (defBody sI12) (defScope sI12) .none kV dc pm an cdv ct), sl⟩) (ci : PySem.W.codeIn K cdv "InvalidCommand.__init__" = true) (ki : PySem.W.keepIn K (.ref fI) = true) (n0 : PySem.W.findIn K (.ref c) "value" = some none) : C1 K R c 0 "InvalidCommand" "value" := by
  have X : XCl K c := ⟨⟨_, _, _, _, PySem.F.excBase_ValueError, PySem.F.store_ValueError, ii, ov⟩, sa, ga, gg, ca, ex, ob, hd, kp⟩
  have F := fun_mk (st := sI12) li ci ki
  refine ⟨⟨X, ⟨cd, cl, mr⟩, ty⟩, fun P w mg base gm => ?_⟩
  exact ⟨gm, n0, fI, _, ⟨X, ini, tf⟩, ok_I12 F X n0, xp_I12 F, xk_I12 F⟩
theorem raw_13 {K : PySem.W.Frag} {R c fI : Addr} {cd : ClassData} {od an : Option Addr} {sl : Array (Option Value)} {oc kV dc pm cdv ct : Value} (ii : PySem.W.excInitIn K c [.type "LookupError", .type "Exception", .type "BaseException", .type "object"] "LookupError.__new__" = true) (ov : PySem.W.excOver K c [.type "LookupError", .type "Exception", .type "BaseException", .type "object"] = true) (sa : PySem.W.findIn K (.ref c) "__setattr__" = some (some (.builtin "object.__setattr__")))
    (ga : PySem.W.findIn K (.ref c) "__getattribute__" = some (some (.builtin "BaseException.__getattribute__"))) (gg : PySem.W.findIn K (.ref c) "__getattr__" = some none) (ca : PySem.W.findIn K (.ref c) "__class__" = some (some (.builtin "object.__class__")))
    (ex : PySem.W.subIn K (.ref c) (.type "BaseException") = some true) (ob : PySem.W.mroIn K c (.type "object") = some true) (hd : PySem.W.hasDictIn K c = true) (kp : PySem.W.keepIn K (.ref c) = true) (cl : PySem.W.clsIn K c = some cd)
    (mr : cd.mro = mroOf R c 1) (ty : PySem.W.typeIn K (.ref c) = some (.type "type")) (ini : PySem.W.findIn K (.ref c) "__init__" = some (some (.ref fI))) (tf : PySem.W.typeIn K (.ref fI) = some (.type "function"))
    (li : K.lookup fI = some ⟨oc, od, .func (PySem.W.fnOf "__init__" "UnknownHost.__init__" (defArgs sI13) (defBody sI13) (defScope sI13) .none kV dc pm an cdv ct), sl⟩) (ci : PySem.W.codeIn K cdv "UnknownHost.__init__" = true) (ki : PySem.W.keepIn K (.ref fI) = true) (n0 : PySem.W.findIn K (.ref c) "host" = some none) : C1 K R c 1 "UnknownHost" "host" := by
  have X : XCl K c := ⟨⟨_, _, _, _, PySem.F.excBase_LookupError, PySem.F.store_LookupError, ii, ov⟩, sa, ga, gg, ca, ex, ob, hd, kp⟩
  have F := fun_mk (st := sI13) li ci ki
  refine ⟨⟨X, ⟨cd, cl, mr⟩, ty⟩, fun P w mg base gm => ?_⟩
  exact ⟨gm, n0, fI, _, ⟨X, ini, tf⟩, ok_I13 F X n0, xp_I13 F, xk_I13 F⟩
theorem raw_14 {K : PySem.W.Frag} {R c fI : Addr} {cd : ClassData} {od an : Option Addr} {sl : Array (Option Value)} {oc kV dc pm cdv ct : Value} (ii : PySem.W.excInitIn K c [.type "LookupError", .type "Exception", .type "BaseException", .type "object"] "LookupError.__new__" = true) (ov : PySem.W.excOver K c [.type "LookupError", .type "Exception", .type "BaseException", .type "object"] = true) (sa : PySem.W.findIn K (.ref c) "__setattr__" = some (some (.builtin "object.__setattr__")))
    (ga : PySem.W.findIn K (.ref c) "__getattribute__" = some (some (.builtin "BaseException.__getattribute__"))) (gg : PySem.W.findIn K (.ref c) "__getattr__" = some none) (ca : PySem.W.findIn K (.ref c) "__class__" = some (some (.builtin "object.__class__")))
    (ex : PySem.W.subIn K (.ref c) (.type "BaseException") = some true) (ob : PySem.W.mroIn K c (.type "object") = some true) (hd : PySem.W.hasDictIn K c = true) (kp : PySem.W.keepIn K (.ref c) = true) (cl : PySem.W.clsIn K c = some cd)
    (mr : cd.mro = mroOf R c 1) (ty : PySem.W.typeIn K (.ref c) = some (.type "type")) (ini : PySem.W.findIn K (.ref c) "__init__" = some (some (.ref fI))) (tf : PySem.W.typeIn K (.ref fI) = some (.type "function"))
    (li : K.lookup fI = some ⟨oc, od, .func (PySem.W.fnOf "__init__" "EmptyChannel.__init__" (defArgs sI14) (defBody sI14) (defScope sI14) .none kV dc pm an cdv ct), sl⟩) (ci : PySem.W.codeIn K cdv "EmptyChannel.__init__" = true) (ki : PySem.W.keepIn K (.ref fI) = true) (n0 : PySem.W.findIn K (.ref c) "source" = some none) (n1 : PySem.W.findIn K (.ref c) "goal" = some none) : C2 K R c 1 "EmptyChannel" "source" "goal" := by
  have X : XCl K c := ⟨⟨_, _, _, _, PySem.F.excBase_LookupError, PySem.F.store_LookupError, ii, ov⟩, sa, ga, gg, ca, ex, ob, hd, kp⟩
  have F := fun_mk (st := sI14) li ci ki
  refine ⟨⟨X, ⟨cd, cl, mr⟩, ty⟩, fun P w mg base gm => ?_⟩
  exact ⟨gm, n0, n1, fI, _, ⟨X, ini, tf⟩, ok_I14 F X n0 n1, xp_I14 F, xk_I14 F⟩
theorem raw_15 {K : PySem.W.Frag} {R c fI : Addr} {cd : ClassData} {od an : Option Addr} {sl : Array (Option Value)} {oc kV dc pm cdv ct : Value} (ii : PySem.W.excInitIn K c [.type "RuntimeError", .type "Exception", .type "BaseException", .type "object"] "RuntimeError.__new__" = true) (ov : PySem.W.excOver K c [.type "RuntimeError", .type "Exception", .type "BaseException", .type "object"] = true) (sa : PySem.W.findIn K (.ref c) "__setattr__" = some (some (.builtin "object.__setattr__")))
    (ga : PySem.W.findIn K (.ref c) "__getattribute__" = some (some (.builtin "BaseException.__getattribute__"))) (gg : PySem.W.findIn K (.ref c) "__getattr__" = some none) (ca : PySem.W.findIn K (.ref c) "__class__" = some (some (.builtin "object.__class__")))
    (ex : PySem.W.subIn K (.ref c) (.type "BaseException") = some true) (ob : PySem.W.mroIn K c (.type "object") = some true) (hd : PySem.W.hasDictIn K c = true) (kp : PySem.W.keepIn K (.ref c) = true) (cl : PySem.W.clsIn K c = some cd)
    (mr : cd.mro = mroOf R c 2) (ty : PySem.W.typeIn K (.ref c) = some (.type "type")) (ini : PySem.W.findIn K (.ref c) "__init__" = some (some (.ref fI))) (tf : PySem.W.typeIn K (.ref fI) = some (.type "function"))
    (li : K.lookup fI = some ⟨oc, od, .func (PySem.W.fnOf "__init__" "Busy.__init__" (defArgs sI15) (defBody sI15) (defScope sI15) .none kV dc pm an cdv ct), sl⟩) (ci : PySem.W.codeIn K cdv "Busy.__init__" = true) (ki : PySem.W.keepIn K (.ref fI) = true) (n0 : PySem.W.findIn K (.ref c) "host" = some none) : C1 K R c 2 "Busy" "host" := by
  have X : XCl K c := ⟨⟨_, _, _, _, PySem.F.excBase_RuntimeError, PySem.F.store_RuntimeError, ii, ov⟩, sa, ga, gg, ca, ex, ob, hd, kp⟩
  have F := fun_mk (st := sI15) li ci ki
  refine ⟨⟨X, ⟨cd, cl, mr⟩, ty⟩, fun P w mg base gm => ?_⟩
  exact ⟨gm, n0, fI, _, ⟨X, ini, tf⟩, ok_I15 F X n0, xp_I15 F, xk_I15 F⟩
theorem raw_16 {K : PySem.W.Frag} {R c fI : Addr} {cd : ClassData} {od an : Option Addr} {sl : Array (Option Value)} {oc kV dc pm cdv ct : Value} (ii : PySem.W.excInitIn K c [.type "RuntimeError", .type "Exception", .type "BaseException", .type "object"] "RuntimeError.__new__" = true) (ov : PySem.W.excOver K c [.type "RuntimeError", .type "Exception", .type "BaseException", .type "object"] = true) (sa : PySem.W.findIn K (.ref c) "__setattr__" = some (some (.builtin "object.__setattr__")))
    (ga : PySem.W.findIn K (.ref c) "__getattribute__" = some (some (.builtin "BaseException.__getattribute__"))) (gg : PySem.W.findIn K (.ref c) "__getattr__" = some none) (ca : PySem.W.findIn K (.ref c) "__class__" = some (some (.builtin "object.__class__")))
    (ex : PySem.W.subIn K (.ref c) (.type "BaseException") = some true) (ob : PySem.W.mroIn K c (.type "object") = some true) (hd : PySem.W.hasDictIn K c = true) (kp : PySem.W.keepIn K (.ref c) = true) (cl : PySem.W.clsIn K c = some cd)
    (mr : cd.mro = mroOf R c 2) (ty : PySem.W.typeIn K (.ref c) = some (.type "type")) (ini : PySem.W.findIn K (.ref c) "__init__" = some (some (.ref fI))) (tf : PySem.W.typeIn K (.ref fI) = some (.type "function"))
    (li : K.lookup fI = some ⟨oc, od, .func (PySem.W.fnOf "__init__" "NotLinked.__init__" (defArgs sI16) (defBody sI16) (defScope sI16) .none kV dc pm an cdv ct), sl⟩) (ci : PySem.W.codeIn K cdv "NotLinked.__init__" = true) (ki : PySem.W.keepIn K (.ref fI) = true) (n0 : PySem.W.findIn K (.ref c) "host" = some none) (n1 : PySem.W.findIn K (.ref c) "other" = some none) : C2 K R c 2 "NotLinked" "host" "other" := by
  have X : XCl K c := ⟨⟨_, _, _, _, PySem.F.excBase_RuntimeError, PySem.F.store_RuntimeError, ii, ov⟩, sa, ga, gg, ca, ex, ob, hd, kp⟩
  have F := fun_mk (st := sI16) li ci ki
  refine ⟨⟨X, ⟨cd, cl, mr⟩, ty⟩, fun P w mg base gm => ?_⟩
  exact ⟨gm, n0, n1, fI, _, ⟨X, ini, tf⟩, ok_I16 F X n0 n1, xp_I16 F, xk_I16 F⟩
theorem raw_17 {K : PySem.W.Frag} {R c fI : Addr} {cd : ClassData} {od an : Option Addr} {sl : Array (Option Value)} {oc kV dc pm cdv ct : Value} (ii : PySem.W.excInitIn K c [.type "RuntimeError", .type "Exception", .type "BaseException", .type "object"] "RuntimeError.__new__" = true) (ov : PySem.W.excOver K c [.type "RuntimeError", .type "Exception", .type "BaseException", .type "object"] = true) (sa : PySem.W.findIn K (.ref c) "__setattr__" = some (some (.builtin "object.__setattr__")))
    (ga : PySem.W.findIn K (.ref c) "__getattribute__" = some (some (.builtin "BaseException.__getattribute__"))) (gg : PySem.W.findIn K (.ref c) "__getattr__" = some none) (ca : PySem.W.findIn K (.ref c) "__class__" = some (some (.builtin "object.__class__")))
    (ex : PySem.W.subIn K (.ref c) (.type "BaseException") = some true) (ob : PySem.W.mroIn K c (.type "object") = some true) (hd : PySem.W.hasDictIn K c = true) (kp : PySem.W.keepIn K (.ref c) = true) (cl : PySem.W.clsIn K c = some cd)
    (mr : cd.mro = mroOf R c 2) (ty : PySem.W.typeIn K (.ref c) = some (.type "type")) (ini : PySem.W.findIn K (.ref c) "__init__" = some (some (.ref fI))) (tf : PySem.W.typeIn K (.ref fI) = some (.type "function"))
    (li : K.lookup fI = some ⟨oc, od, .func (PySem.W.fnOf "__init__" "NotALeaf.__init__" (defArgs sI17) (defBody sI17) (defScope sI17) .none kV dc pm an cdv ct), sl⟩) (ci : PySem.W.codeIn K cdv "NotALeaf.__init__" = true) (ki : PySem.W.keepIn K (.ref fI) = true) (n0 : PySem.W.findIn K (.ref c) "host" = some none) : C1 K R c 2 "NotALeaf" "host" := by
  have X : XCl K c := ⟨⟨_, _, _, _, PySem.F.excBase_RuntimeError, PySem.F.store_RuntimeError, ii, ov⟩, sa, ga, gg, ca, ex, ob, hd, kp⟩
  have F := fun_mk (st := sI17) li ci ki
  refine ⟨⟨X, ⟨cd, cl, mr⟩, ty⟩, fun P w mg base gm => ?_⟩
  exact ⟨gm, n0, fI, _, ⟨X, ini, tf⟩, ok_I17 F X n0, xp_I17 F, xk_I17 F⟩
theorem raw_18 {K : PySem.W.Frag} {R c fI : Addr} {cd : ClassData} {od an : Option Addr} {sl : Array (Option Value)} {oc kV dc pm cdv ct : Value} (ii : PySem.W.excInitIn K c [.type "RuntimeError", .type "Exception", .type "BaseException", .type "object"] "RuntimeError.__new__" = true) (ov : PySem.W.excOver K c [.type "RuntimeError", .type "Exception", .type "BaseException", .type "object"] = true) (sa : PySem.W.findIn K (.ref c) "__setattr__" = some (some (.builtin "object.__setattr__")))
    (ga : PySem.W.findIn K (.ref c) "__getattribute__" = some (some (.builtin "BaseException.__getattribute__"))) (gg : PySem.W.findIn K (.ref c) "__getattr__" = some none) (ca : PySem.W.findIn K (.ref c) "__class__" = some (some (.builtin "object.__class__")))
    (ex : PySem.W.subIn K (.ref c) (.type "BaseException") = some true) (ob : PySem.W.mroIn K c (.type "object") = some true) (hd : PySem.W.hasDictIn K c = true) (kp : PySem.W.keepIn K (.ref c) = true) (cl : PySem.W.clsIn K c = some cd)
    (mr : cd.mro = mroOf R c 2) (ty : PySem.W.typeIn K (.ref c) = some (.type "type")) (ini : PySem.W.findIn K (.ref c) "__init__" = some (some (.ref fI))) (tf : PySem.W.typeIn K (.ref fI) = some (.type "function"))
    (li : K.lookup fI = some ⟨oc, od, .func (PySem.W.fnOf "__init__" "NameTaken.__init__" (defArgs sI18) (defBody sI18) (defScope sI18) .none kV dc pm an cdv ct), sl⟩) (ci : PySem.W.codeIn K cdv "NameTaken.__init__" = true) (ki : PySem.W.keepIn K (.ref fI) = true) (n0 : PySem.W.findIn K (.ref c) "value" = some none) : C1 K R c 2 "NameTaken" "value" := by
  have X : XCl K c := ⟨⟨_, _, _, _, PySem.F.excBase_RuntimeError, PySem.F.store_RuntimeError, ii, ov⟩, sa, ga, gg, ca, ex, ob, hd, kp⟩
  have F := fun_mk (st := sI18) li ci ki
  refine ⟨⟨X, ⟨cd, cl, mr⟩, ty⟩, fun P w mg base gm => ?_⟩
  exact ⟨gm, n0, fI, _, ⟨X, ini, tf⟩, ok_I18 F X n0, xp_I18 F, xk_I18 F⟩
theorem raw_19 {K : PySem.W.Frag} {R c fI : Addr} {cd : ClassData} {od an : Option Addr} {sl : Array (Option Value)} {oc kV dc pm cdv ct : Value} (ii : PySem.W.excInitIn K c [.type "RuntimeError", .type "Exception", .type "BaseException", .type "object"] "RuntimeError.__new__" = true) (ov : PySem.W.excOver K c [.type "RuntimeError", .type "Exception", .type "BaseException", .type "object"] = true) (sa : PySem.W.findIn K (.ref c) "__setattr__" = some (some (.builtin "object.__setattr__")))
    (ga : PySem.W.findIn K (.ref c) "__getattribute__" = some (some (.builtin "BaseException.__getattribute__"))) (gg : PySem.W.findIn K (.ref c) "__getattr__" = some none) (ca : PySem.W.findIn K (.ref c) "__class__" = some (some (.builtin "object.__class__")))
    (ex : PySem.W.subIn K (.ref c) (.type "BaseException") = some true) (ob : PySem.W.mroIn K c (.type "object") = some true) (hd : PySem.W.hasDictIn K c = true) (kp : PySem.W.keepIn K (.ref c) = true) (cl : PySem.W.clsIn K c = some cd)
    (mr : cd.mro = mroOf R c 2) (ty : PySem.W.typeIn K (.ref c) = some (.type "type")) (ini : PySem.W.findIn K (.ref c) "__init__" = some (some (.ref fI))) (tf : PySem.W.typeIn K (.ref fI) = some (.type "function"))
    (li : K.lookup fI = some ⟨oc, od, .func (PySem.W.fnOf "__init__" "NotAtRest.__init__" (defArgs sI19) (defBody sI19) (defScope sI19) .none kV dc pm an cdv ct), sl⟩) (ci : PySem.W.codeIn K cdv "NotAtRest.__init__" = true) (ki : PySem.W.keepIn K (.ref fI) = true) (n0 : PySem.W.findIn K (.ref c) "channels" = some none) : C1 K R c 2 "NotAtRest" "channels" := by
  have X : XCl K c := ⟨⟨_, _, _, _, PySem.F.excBase_RuntimeError, PySem.F.store_RuntimeError, ii, ov⟩, sa, ga, gg, ca, ex, ob, hd, kp⟩
  have F := fun_mk (st := sI19) li ci ki
  refine ⟨⟨X, ⟨cd, cl, mr⟩, ty⟩, fun P w mg base gm => ?_⟩
  exact ⟨gm, n0, fI, _, ⟨X, ini, tf⟩, ok_I19 F X n0, xp_I19 F, xk_I19 F⟩
theorem raw_20 {K : PySem.W.Frag} {R c fI : Addr} {cd : ClassData} {od an : Option Addr} {sl : Array (Option Value)} {oc kV dc pm cdv ct : Value} (ii : PySem.W.excInitIn K c [.type "RuntimeError", .type "Exception", .type "BaseException", .type "object"] "RuntimeError.__new__" = true) (ov : PySem.W.excOver K c [.type "RuntimeError", .type "Exception", .type "BaseException", .type "object"] = true) (sa : PySem.W.findIn K (.ref c) "__setattr__" = some (some (.builtin "object.__setattr__")))
    (ga : PySem.W.findIn K (.ref c) "__getattribute__" = some (some (.builtin "BaseException.__getattribute__"))) (gg : PySem.W.findIn K (.ref c) "__getattr__" = some none) (ca : PySem.W.findIn K (.ref c) "__class__" = some (some (.builtin "object.__class__")))
    (ex : PySem.W.subIn K (.ref c) (.type "BaseException") = some true) (ob : PySem.W.mroIn K c (.type "object") = some true) (hd : PySem.W.hasDictIn K c = true) (kp : PySem.W.keepIn K (.ref c) = true) (cl : PySem.W.clsIn K c = some cd)
    (mr : cd.mro = mroOf R c 2) (ty : PySem.W.typeIn K (.ref c) = some (.type "type")) (ini : PySem.W.findIn K (.ref c) "__init__" = some (some (.ref fI))) (tf : PySem.W.typeIn K (.ref fI) = some (.type "function"))
    (li : K.lookup fI = some ⟨oc, od, .func (PySem.W.fnOf "__init__" "NoNetwork.__init__" (defArgs sI20) (defBody sI20) (defScope sI20) .none kV dc pm an cdv ct), sl⟩) (ci : PySem.W.codeIn K cdv "NoNetwork.__init__" = true) (ki : PySem.W.keepIn K (.ref fI) = true)  : C0 K R c 2 "NoNetwork" := by
  have X : XCl K c := ⟨⟨_, _, _, _, PySem.F.excBase_RuntimeError, PySem.F.store_RuntimeError, ii, ov⟩, sa, ga, gg, ca, ex, ob, hd, kp⟩
  have F := fun_mk (st := sI20) li ci ki
  refine ⟨⟨X, ⟨cd, cl, mr⟩, ty⟩, fun P w mg base gm => ?_⟩
  exact ⟨gm, fI, _, ⟨X, ini, tf⟩, ok_I20 F, xp_I20 F⟩
theorem raw_21 {K : PySem.W.Frag} {R c fI : Addr} {cd : ClassData} {od an : Option Addr} {sl : Array (Option Value)} {oc kV dc pm cdv ct : Value} (ii : PySem.W.excInitIn K c [.type "ArithmeticError", .type "Exception", .type "BaseException", .type "object"] "ArithmeticError.__new__" = true) (ov : PySem.W.excOver K c [.type "ArithmeticError", .type "Exception", .type "BaseException", .type "object"] = true) (sa : PySem.W.findIn K (.ref c) "__setattr__" = some (some (.builtin "object.__setattr__")))
    (ga : PySem.W.findIn K (.ref c) "__getattribute__" = some (some (.builtin "BaseException.__getattribute__"))) (gg : PySem.W.findIn K (.ref c) "__getattr__" = some none) (ca : PySem.W.findIn K (.ref c) "__class__" = some (some (.builtin "object.__class__")))
    (ex : PySem.W.subIn K (.ref c) (.type "BaseException") = some true) (ob : PySem.W.mroIn K c (.type "object") = some true) (hd : PySem.W.hasDictIn K c = true) (kp : PySem.W.keepIn K (.ref c) = true) (cl : PySem.W.clsIn K c = some cd)
    (mr : cd.mro = mroOf R c 3) (ty : PySem.W.typeIn K (.ref c) = some (.type "type")) (ini : PySem.W.findIn K (.ref c) "__init__" = some (some (.ref fI))) (tf : PySem.W.typeIn K (.ref fI) = some (.type "function"))
    (li : K.lookup fI = some ⟨oc, od, .func (PySem.W.fnOf "__init__" "TooMany.__init__" (defArgs sI21) (defBody sI21) (defScope sI21) .none kV dc pm an cdv ct), sl⟩) (ci : PySem.W.codeIn K cdv "TooMany.__init__" = true) (ki : PySem.W.keepIn K (.ref fI) = true) (n0 : PySem.W.findIn K (.ref c) "limit" = some none) : C1 K R c 3 "TooMany" "limit" := by
  have X : XCl K c := ⟨⟨_, _, _, _, PySem.F.excBase_ArithmeticError, PySem.F.store_ArithmeticError, ii, ov⟩, sa, ga, gg, ca, ex, ob, hd, kp⟩
  have F := fun_mk (st := sI21) li ci ki
  refine ⟨⟨X, ⟨cd, cl, mr⟩, ty⟩, fun P w mg base gm => ?_⟩
  exact ⟨gm, n0, fI, _, ⟨X, ini, tf⟩, ok_I21 F X n0, xp_I21 F, xk_I21 F⟩
theorem raw_R {K : PySem.W.Frag} {c : Addr} {cd : ClassData} (ii : PySem.W.excInitIn K c [.type "ValueError", .type "Exception", .type "BaseException", .type "object"] "ValueError.__new__" = true) (ov : PySem.W.excOver K c [.type "ValueError", .type "Exception", .type "BaseException", .type "object"] = true) (sa : PySem.W.findIn K (.ref c) "__setattr__" = some (some (.builtin "object.__setattr__")))
    (ga : PySem.W.findIn K (.ref c) "__getattribute__" = some (some (.builtin "BaseException.__getattribute__"))) (gg : PySem.W.findIn K (.ref c) "__getattr__" = some none) (ca : PySem.W.findIn K (.ref c) "__class__" = some (some (.builtin "object.__class__")))
    (ex : PySem.W.subIn K (.ref c) (.type "BaseException") = some true) (ob : PySem.W.mroIn K c (.type "object") = some true) (hd : PySem.W.hasDictIn K c = true) (kp : PySem.W.keepIn K (.ref c) = true) (cl : PySem.W.clsIn K c = some cd)
    (mr : cd.mro = .ref c :: tailOf 0) (ty : PySem.W.typeIn K (.ref c) = some (.type "type")) (ini : PySem.W.findIn K (.ref c) "__init__" = some (some (.builtin "ValueError.__init__"))) : CR K c :=
  ⟨⟨⟨⟨_, _, _, _, PySem.F.excBase_ValueError, PySem.F.store_ValueError, ii, ov⟩, sa, ga, gg, ca, ex, ob, hd, kp⟩, ⟨cd, cl, mr⟩, ty⟩, _, _, _, _, PySem.F.excBase_ValueError, ii, ini⟩
theorem all_mk {l : PySem.W.OpenLaw} {w : World} {K : PySem.W.Frag} {h : Heap} {mg : Str → Option Value} {fa f1 f2 f3 f4 f5 f6 f7 f8 f9 : Addr} (X : K.In h) (G : h.Ns mainGlobals mg) (hfa : mg "law" = some (.ref fa))
    {od1 an1 od2 an2 od3 an3 od4 an4 od5 an5 od6 an6 od7 an7 od8 an8 od9 an9 : Option Addr} {sl1 sl2 sl3 sl4 sl5 sl6 sl7 sl8 sl9 : Array (Option Value)} {oc1 kV1 dc1 pm1 cd1 ct1 oc2 kV2 dc2 pm2 cd2 ct2 oc3 kV3 dc3 pm3 cd3 ct3 oc4 kV4 dc4 pm4 cd4 ct4 oc5 kV5 dc5 pm5 cd5 ct5 oc6 kV6 dc6 pm6 cd6 ct6 oc7 kV7 dc7 pm7 cd7 ct7 oc8 kV8 dc8 pm8 cd8 ct8 oc9 kV9 dc9 pm9 cd9 ct9 : Value} {R c0 c1 c2 c3 c4 c5 c6 c7 c8 c9 c10 c11 c12 c13 c14 c15 c16 c17 c18 c19 c20 c21 : Addr}
    (a1 : PySem.W.nsIn K mainGlobals "_law_rng" = some (some (.ref f1))) (l1 : K.lookup f1 = some ⟨oc1, od1, .func (PySem.W.fnOf "_law_rng" "_law_rng" (defArgs sRng) (defBody sRng) (defScope sRng) .none kV1 dc1 pm1 an1 cd1 ct1), sl1⟩) (co1 : PySem.W.codeIn K cd1 "_law_rng" = true) (k1 : PySem.W.keepIn K (.ref f1) = true)
    (a2 : PySem.W.nsIn K mainGlobals "_law_draw" = some (some (.ref f2))) (l2 : K.lookup f2 = some ⟨oc2, od2, .func (PySem.W.fnOf "_law_draw" "_law_draw" (defArgs sDraw) (defBody sDraw) (defScope sDraw) .none kV2 dc2 pm2 an2 cd2 ct2), sl2⟩) (co2 : PySem.W.codeIn K cd2 "_law_draw" = true) (k2 : PySem.W.keepIn K (.ref f2) = true)
    (a3 : PySem.W.nsIn K mainGlobals "_law_flags" = some (some (.ref f3))) (l3 : K.lookup f3 = some ⟨oc3, od3, .func (PySem.W.fnOf "_law_flags" "_law_flags" (defArgs sFlags) (defBody sFlags) (defScope sFlags) .none kV3 dc3 pm3 an3 cd3 ct3), sl3⟩) (co3 : PySem.W.codeIn K cd3 "_law_flags" = true) (k3 : PySem.W.keepIn K (.ref f3) = true)
    (a4 : PySem.W.nsIn K mainGlobals "_law_are_right" = some (some (.ref f4))) (l4 : K.lookup f4 = some ⟨oc4, od4, .func (PySem.W.fnOf "_law_are_right" "_law_are_right" (defArgs sAre) (defBody sAre) (defScope sAre) .none kV4 dc4 pm4 an4 cd4 ct4), sl4⟩) (co4 : PySem.W.codeIn K cd4 "_law_are_right" = true) (k4 : PySem.W.keepIn K (.ref f4) = true)
    (a5 : PySem.W.nsIn K mainGlobals "_law_single_right_1" = some (some (.ref f5))) (l5 : K.lookup f5 = some ⟨oc5, od5, .func (PySem.W.fnOf "_law_single_right_1" "_law_single_right_1" (defArgs sOne) (defBody sOne) (defScope sOne) .none kV5 dc5 pm5 an5 cd5 ct5), sl5⟩) (co5 : PySem.W.codeIn K cd5 "_law_single_right_1" = true) (k5 : PySem.W.keepIn K (.ref f5) = true)
    (a6 : PySem.W.nsIn K mainGlobals "_law_single_right_2" = some (some (.ref f6))) (l6 : K.lookup f6 = some ⟨oc6, od6, .func (PySem.W.fnOf "_law_single_right_2" "_law_single_right_2" (defArgs sTwo) (defBody sTwo) (defScope sTwo) .none kV6 dc6 pm6 an6 cd6 ct6), sl6⟩) (co6 : PySem.W.codeIn K cd6 "_law_single_right_2" = true) (k6 : PySem.W.keepIn K (.ref f6) = true)
    (a7 : PySem.W.nsIn K mainGlobals "_law_double_right" = some (some (.ref f7))) (l7 : K.lookup f7 = some ⟨oc7, od7, .func (PySem.W.fnOf "_law_double_right" "_law_double_right" (defArgs sDbl) (defBody sDbl) (defScope sDbl) .none kV7 dc7 pm7 an7 cd7 ct7), sl7⟩) (co7 : PySem.W.codeIn K cd7 "_law_double_right" = true) (k7 : PySem.W.keepIn K (.ref f7) = true)
    (a8 : PySem.W.nsIn K mainGlobals "_law_thing" = some (some (.ref f8))) (l8 : K.lookup f8 = some ⟨oc8, od8, .func (PySem.W.fnOf "_law_thing" "_law_thing" (defArgs sThing) (defBody sThing) (defScope sThing) .none kV8 dc8 pm8 an8 cd8 ct8), sl8⟩) (co8 : PySem.W.codeIn K cd8 "_law_thing" = true) (k8 : PySem.W.keepIn K (.ref f8) = true)
    (a9 : PySem.W.nsIn K mainGlobals "law" = some (some (.ref f9))) (l9 : K.lookup f9 = some ⟨oc9, od9, .func (PySem.W.fnOf "law" "law" (defArgs sLaw) (defBody sLaw) (defScope sLaw) .none kV9 dc9 pm9 an9 cd9 ct9), sl9⟩) (co9 : PySem.W.codeIn K cd9 "law" = true) (k9 : PySem.W.keepIn K (.ref f9) = true)
    (z1 : PySem.W.nsIn K mainGlobals "isinstance" = some none)
    (z2 : PySem.W.nsIn K mainGlobals "ValueError" = some none)
    (z3 : PySem.W.nsIn K mainGlobals "LookupError" = some none)
    (z4 : PySem.W.nsIn K mainGlobals "RuntimeError" = some none)
    (z5 : PySem.W.nsIn K mainGlobals "ArithmeticError" = some none)
    (z6 : PySem.W.nsIn K mainGlobals "KeyError" = some none)
    (z7 : PySem.W.nsIn K mainGlobals "range" = some none)
    (z8 : PySem.W.nsIn K mainGlobals "repr" = some none)
    (z9 : PySem.W.nsIn K mainGlobals "max" = some none)
    (z10 : PySem.W.nsIn K mainGlobals "min" = some none)
    (z11 : PySem.W.nsIn K mainGlobals "len" = some none)
    (z12 : PySem.W.nsIn K mainGlobals "abs" = some none)
    (z13 : PySem.W.nsIn K mainGlobals "divmod" = some none)
    (aR : PySem.W.nsIn K mainGlobals "RelinkTreeError" = some (some (.ref R)))
    (e0 : PySem.W.nsIn K mainGlobals "InvalidName" = some (some (.ref c0)))
    (e1 : PySem.W.nsIn K mainGlobals "InvalidWord" = some (some (.ref c1)))
    (e2 : PySem.W.nsIn K mainGlobals "InvalidTree" = some (some (.ref c2)))
    (e3 : PySem.W.nsIn K mainGlobals "InvalidRelink" = some (some (.ref c3)))
    (e4 : PySem.W.nsIn K mainGlobals "InvalidItem" = some (some (.ref c4)))
    (e5 : PySem.W.nsIn K mainGlobals "InvalidStep" = some (some (.ref c5)))
    (e6 : PySem.W.nsIn K mainGlobals "InvalidEvent" = some (some (.ref c6)))
    (e7 : PySem.W.nsIn K mainGlobals "InvalidChoice" = some (some (.ref c7)))
    (e8 : PySem.W.nsIn K mainGlobals "InvalidScript" = some (some (.ref c8)))
    (e9 : PySem.W.nsIn K mainGlobals "InvalidPlan" = some (some (.ref c9)))
    (e10 : PySem.W.nsIn K mainGlobals "InvalidText" = some (some (.ref c10)))
    (e11 : PySem.W.nsIn K mainGlobals "InvalidLine" = some (some (.ref c11)))
    (e12 : PySem.W.nsIn K mainGlobals "InvalidCommand" = some (some (.ref c12)))
    (e13 : PySem.W.nsIn K mainGlobals "UnknownHost" = some (some (.ref c13)))
    (e14 : PySem.W.nsIn K mainGlobals "EmptyChannel" = some (some (.ref c14)))
    (e15 : PySem.W.nsIn K mainGlobals "Busy" = some (some (.ref c15)))
    (e16 : PySem.W.nsIn K mainGlobals "NotLinked" = some (some (.ref c16)))
    (e17 : PySem.W.nsIn K mainGlobals "NotALeaf" = some (some (.ref c17)))
    (e18 : PySem.W.nsIn K mainGlobals "NameTaken" = some (some (.ref c18)))
    (e19 : PySem.W.nsIn K mainGlobals "NotAtRest" = some (some (.ref c19)))
    (e20 : PySem.W.nsIn K mainGlobals "NoNetwork" = some (some (.ref c20)))
    (e21 : PySem.W.nsIn K mainGlobals "TooMany" = some (some (.ref c21)))
    (cg : PySem.W.specialIn K (.builtin "object.__class__") "__get__" = some (some (.builtin "getset_descriptor.__get__"))) (ct : PySem.W.takesIn K (.builtin "object.__class__") = some true)
    (SR : CR K R)
    (S0 : C1 K R c0 0 "InvalidName" "value")
    (S1 : C1 K R c1 0 "InvalidWord" "value")
    (S2 : C2 K R c2 0 "InvalidTree" "reason" "value")
    (S3 : C1 K R c3 0 "InvalidRelink" "value")
    (S4 : C1 K R c4 0 "InvalidItem" "value")
    (S5 : C2 K R c5 0 "InvalidStep" "host" "kind")
    (S6 : C1 K R c6 0 "InvalidEvent" "value")
    (S7 : C1 K R c7 0 "InvalidChoice" "value")
    (S8 : C1 K R c8 0 "InvalidScript" "value")
    (S9 : C1 K R c9 0 "InvalidPlan" "index")
    (S10 : C1 K R c10 0 "InvalidText" "value")
    (S11 : C1 K R c11 0 "InvalidLine" "line")
    (S12 : C1 K R c12 0 "InvalidCommand" "value")
    (S13 : C1 K R c13 1 "UnknownHost" "host")
    (S14 : C2 K R c14 1 "EmptyChannel" "source" "goal")
    (S15 : C1 K R c15 2 "Busy" "host")
    (S16 : C2 K R c16 2 "NotLinked" "host" "other")
    (S17 : C1 K R c17 2 "NotALeaf" "host")
    (S18 : C1 K R c18 2 "NameTaken" "value")
    (S19 : C1 K R c19 2 "NotAtRest" "channels")
    (S20 : C0 K R c20 2 "NoNetwork")
    (S21 : C1 K R c21 3 "TooMany" "limit")
    (nd : (R :: [c0, c1, c2, c3, c4, c5, c6, c7, c8, c9, c10, c11, c12, c13, c14, c15, c16, c17, c18, c19, c20, c21]).Nodup) :
    ∃ fd : FuncData, (∀ (s : Shared) (v : Value), BindsTo s fd ⟨[v], []⟩ [("_law_script", v)]) ∧ ∀ base : Heap, K.In base → base.Ns mainGlobals mg → FnG l.prog w K mg base CX0 4 fa fd ["_law_script"] (spLaw K) := by
  have e := hfa.symm.trans (PySem.W.mg_of X G a9)
  cases e
  have F1 := fun_mk (st := sRng) l1 co1 k1
  have b1 := F1.binds (ps := ["_law_script", "_law_k"]) fun _ _ _ _ _ _ us hl => match us, hl with | [_, _], _ => rfl
  have m1 := PySem.W.mg_of X G a1
  have F2 := fun_mk (st := sDraw) l2 co2 k2
  have b2 := F2.binds (ps := ["_law_rng_here", "_law_many"]) fun _ _ _ _ _ _ us hl => match us, hl with | [_, _], _ => rfl
  have m2 := PySem.W.mg_of X G a2
  have F3 := fun_mk (st := sFlags) l3 co3 k3
  have b3 := F3.binds (ps := ["_law_e"]) fun _ _ _ _ _ _ us hl => match us, hl with | [_], _ => rfl
  have m3 := PySem.W.mg_of X G a3
  have F4 := fun_mk (st := sAre) l4 co4 k4
  have b4 := F4.binds (ps := ["_law_first", "_law_second", "_law_at", "_law_base"]) fun _ _ _ _ _ _ us hl => match us, hl with | [_, _, _, _], _ => rfl
  have m4 := PySem.W.mg_of X G a4
  have F5 := fun_mk (st := sOne) l5 co5 k5
  have b5 := F5.binds (ps := ["_law_thing_here"]) fun _ _ _ _ _ _ us hl => match us, hl with | [_], _ => rfl
  have m5 := PySem.W.mg_of X G a5
  have F6 := fun_mk (st := sTwo) l6 co6 k6
  have b6 := F6.binds (ps := ["_law_thing_here"]) fun _ _ _ _ _ _ us hl => match us, hl with | [_], _ => rfl
  have m6 := PySem.W.mg_of X G a6
  have F7 := fun_mk (st := sDbl) l7 co7 k7
  have b7 := F7.binds (ps := ["_law_thing_here", "_law_last"]) fun _ _ _ _ _ _ us hl => match us, hl with | [_, _], _ => rfl
  have m7 := PySem.W.mg_of X G a7
  have F8 := fun_mk (st := sThing) l8 co8 k8
  have b8 := F8.binds (ps := ["_law_rng_here"]) fun _ _ _ _ _ _ us hl => match us, hl with | [_], _ => rfl
  have m8 := PySem.W.mg_of X G a8
  have F9 := fun_mk (st := sLaw) l9 co9 k9
  have b9 := F9.binds (ps := ["_law_script"]) fun _ _ _ _ _ _ us hl => match us, hl with | [_], _ => rfl
  have m9 := PySem.W.mg_of X G a9
  have y1 := PySem.W.mg_none_of X G z1
  have y2 := PySem.W.mg_none_of X G z2
  have y3 := PySem.W.mg_none_of X G z3
  have y4 := PySem.W.mg_none_of X G z4
  have y5 := PySem.W.mg_none_of X G z5
  have y6 := PySem.W.mg_none_of X G z6
  have y7 := PySem.W.mg_none_of X G z7
  have y8 := PySem.W.mg_none_of X G z8
  have y9 := PySem.W.mg_none_of X G z9
  have y10 := PySem.W.mg_none_of X G z10
  have y11 := PySem.W.mg_none_of X G z11
  have y12 := PySem.W.mg_none_of X G z12
  have y13 := PySem.W.mg_none_of X G z13
  refine ⟨PySem.W.fnOf "law" "law" (defArgs sLaw) (defBody sLaw) (defScope sLaw) .none kV9 dc9 pm9 an9 cd9 ct9, fun s v => .of_eq rfl, fun base _ _ => ?_⟩
  have gR := PySem.W.mg_of X G aR
  have g0 := PySem.W.mg_of X G e0
  have g1 := PySem.W.mg_of X G e1
  have g2 := PySem.W.mg_of X G e2
  have g3 := PySem.W.mg_of X G e3
  have g4 := PySem.W.mg_of X G e4
  have g5 := PySem.W.mg_of X G e5
  have g6 := PySem.W.mg_of X G e6
  have g7 := PySem.W.mg_of X G e7
  have g8 := PySem.W.mg_of X G e8
  have g9 := PySem.W.mg_of X G e9
  have g10 := PySem.W.mg_of X G e10
  have g11 := PySem.W.mg_of X G e11
  have g12 := PySem.W.mg_of X G e12
  have g13 := PySem.W.mg_of X G e13
  have g14 := PySem.W.mg_of X G e14
  have g15 := PySem.W.mg_of X G e15
  have g16 := PySem.W.mg_of X G e16
  have g17 := PySem.W.mg_of X G e17
  have g18 := PySem.W.mg_of X G e18
  have g19 := PySem.W.mg_of X G e19
  have g20 := PySem.W.mg_of X G e20
  have g21 := PySem.W.mg_of X G e21
  have B : Tab K R [c0, c1, c2, c3, c4, c5, c6, c7, c8, c9, c10, c11, c12, c13, c14, c15, c16, c17, c18, c19, c20, c21] := by
    refine ⟨fun i C h => ?_, SR.1, nd, rfl⟩
    match i, h with
    | 0, h =>
      cases h
      exact S0.1
    | 1, h =>
      cases h
      exact S1.1
    | 2, h =>
      cases h
      exact S2.1
    | 3, h =>
      cases h
      exact S3.1
    | 4, h =>
      cases h
      exact S4.1
    | 5, h =>
      cases h
      exact S5.1
    | 6, h =>
      cases h
      exact S6.1
    | 7, h =>
      cases h
      exact S7.1
    | 8, h =>
      cases h
      exact S8.1
    | 9, h =>
      cases h
      exact S9.1
    | 10, h =>
      cases h
      exact S10.1
    | 11, h =>
      cases h
      exact S11.1
    | 12, h =>
      cases h
      exact S12.1
    | 13, h =>
      cases h
      exact S13.1
    | 14, h =>
      cases h
      exact S14.1
    | 15, h =>
      cases h
      exact S15.1
    | 16, h =>
      cases h
      exact S16.1
    | 17, h =>
      cases h
      exact S17.1
    | 18, h =>
      cases h
      exact S18.1
    | 19, h =>
      cases h
      exact S19.1
    | 20, h =>
      cases h
      exact S20.1
    | 21, h =>
      cases h
      exact S21.1
    | n + 22, h => exact nomatch h
  have TF : TxtF K mg R c0 c1 c2 c3 c4 c5 c6 c7 c8 c9 c10 c11 c12 c13 c14 c15 c16 c17 c18 c19 c20 c21 := ⟨y1, cg, ct, gR, g0, g1, g2, g3, g4, g5, g6, g7, g8, g9, g10, g11, g12, g13, g14, g15, g16, g17, g18, g19, g20, g21⟩
  have TA : TxtA mg f3 := ⟨m3, y2, y3, y4, y5, y6, y7⟩
  have TR : TxtR mg := ⟨y11, y12, y9, y13⟩
  have TX : TxtX mg f4 := ⟨m4, y8⟩
  have TT : TxtT mg f2 := ⟨m2⟩
  have TW : TxtW mg f1 f8 f3 f5 f6 f7 := ⟨m1, m8, m3, m5, m6, m7, y7, y9, y10, y11, y2, y1⟩
  have GA : FnOk l.prog w K mg base CX0 2 f4 _ ["_law_first", "_law_second", "_law_at", "_law_base"] (spAre K [c0, c1, c2, c3, c4, c5, c6, c7, c8, c9, c10, c11, c12, c13, c14, c15, c16, c17, c18, c19, c20, c21]) := ok_are F4 TF TA B F3 b3
  exact ok_law F9 TW B cg ct gR SR.2 k1 k8 k3 k5 k6 k7 (ok_rng F1 TR) b1 (ok_thing F8 TT TR F2 b2) b8 (ok_flags F3 TF B) b3
    (ok_one (R := R) F5 TX k4 GA b4 (S0.2 _ _ _ _ g0) (S1.2 _ _ _ _ g1) (S3.2 _ _ _ _ g3) (S4.2 _ _ _ _ g4) (S6.2 _ _ _ _ g6) (S7.2 _ _ _ _ g7) (S8.2 _ _ _ _ g8) (S9.2 _ _ _ _ g9) (S10.2 _ _ _ _ g10)) b5
    (ok_two (R := R) F6 TX k4 GA b4 (S11.2 _ _ _ _ g11) (S12.2 _ _ _ _ g12) (S13.2 _ _ _ _ g13) (S15.2 _ _ _ _ g15) (S17.2 _ _ _ _ g17) (S18.2 _ _ _ _ g18) (S19.2 _ _ _ _ g19) (S21.2 _ _ _ _ g21)) b6
    (ok_dbl (R := R) F7 TX k4 GA b4 (S2.2 _ _ _ _ g2) (S5.2 _ _ _ _ g5) (S14.2 _ _ _ _ g14) (S16.2 _ _ _ _ g16) (S20.2 _ _ _ _ g20)) b7
end My


open PySem PySem.W PyProof.Rows in
set_option maxRecDepth 100000 in
set_option maxHeartbeats 0 in
theorem PySem.Challenge.cw_relinktree_k17_errors_made_holds : PySem.Challenge.rw_relinktree_k17_errors_made.Holds := by
  w_on; o_law; k_head; (case hw => w_witness2)
  k_fill
  refine Gy.walk_g (l := PySem.Challenge.rw_relinktree_k17_errors_made) (n := 63) (k := 4) (x := "_law_script") (sp := My.spLaw) rfl (by decide) rfl ⟨rfl, by decide, by decide⟩ (fun w h Y => PySem.W.kIn_of Y) ?F (fun K H a ns hl hS => ⟨a, ns, rfl, hS, hl, fun _ => rfl⟩)
  case F =>
    intro w mg fa h KX G hmg
    refine' My.all_mk KX G hmg ?a1 ?l1 ?co1 ?k1 ?a2 ?l2 ?co2 ?k2 ?a3 ?l3 ?co3 ?k3 ?a4 ?l4 ?co4 ?k4 ?a5 ?l5 ?co5 ?k5 ?a6 ?l6 ?co6 ?k6 ?a7 ?l7 ?co7 ?k7 ?a8 ?l8 ?co8 ?k8 ?a9 ?l9 ?co9 ?k9 ?z1 ?z2 ?z3 ?z4 ?z5 ?z6 ?z7 ?z8 ?z9 ?z10 ?z11 ?z12 ?z13 ?aR ?e0 ?e1 ?e2 ?e3 ?e4 ?e5 ?e6 ?e7 ?e8 ?e9 ?e10 ?e11 ?e12 ?e13 ?e14 ?e15 ?e16 ?e17 ?e18 ?e19 ?e20 ?e21 ?cg ?ct ?SR ?S0 ?S1 ?S2 ?S3 ?S4 ?S5 ?S6 ?S7 ?S8 ?S9 ?S10 ?S11 ?S12 ?S13 ?S14 ?S15 ?S16 ?S17 ?S18 ?S19 ?S20 ?S21 ?nd
    (case a1 => k_is)
    (case l1 => k_is)
    (case co1 => k_is)
    (case k1 => k_is)
    (case a2 => k_is)
    (case l2 => k_is)
    (case co2 => k_is)
    (case k2 => k_is)
    (case a3 => k_is)
    (case l3 => k_is)
    (case co3 => k_is)
    (case k3 => k_is)
    (case a4 => k_is)
    (case l4 => k_is)
    (case co4 => k_is)
    (case k4 => k_is)
    (case a5 => k_is)
    (case l5 => k_is)
    (case co5 => k_is)
    (case k5 => k_is)
    (case a6 => k_is)
    (case l6 => k_is)
    (case co6 => k_is)
    (case k6 => k_is)
    (case a7 => k_is)
    (case l7 => k_is)
    (case co7 => k_is)
    (case k7 => k_is)
    (case a8 => k_is)
    (case l8 => k_is)
    (case co8 => k_is)
    (case k8 => k_is)
    (case a9 => k_is)
    (case l9 => k_is)
    (case co9 => k_is)
    (case k9 => k_is)
    (case z1 => k_is)
    (case z2 => k_is)
    (case z3 => k_is)
    (case z4 => k_is)
    (case z5 => k_is)
    (case z6 => k_is)
    (case z7 => k_is)
    (case z8 => k_is)
    (case z9 => k_is)
    (case z10 => k_is)
    (case z11 => k_is)
    (case z12 => k_is)
    (case z13 => k_is)
    (case aR => k_is)
    (case e0 => k_is)
    (case e1 => k_is)
    (case e2 => k_is)
    (case e3 => k_is)
    (case e4 => k_is)
    (case e5 => k_is)
    (case e6 => k_is)
    (case e7 => k_is)
    (case e8 => k_is)
    (case e9 => k_is)
    (case e10 => k_is)
    (case e11 => k_is)
    (case e12 => k_is)
    (case e13 => k_is)
    (case e14 => k_is)
    (case e15 => k_is)
    (case e16 => k_is)
    (case e17 => k_is)
    (case e18 => k_is)
    (case e19 => k_is)
    (case e20 => k_is)
    (case e21 => k_is)
    (case cg => k_is)
    (case ct => k_is)
    (case SR =>
      refine' My.raw_R ?ii ?ov ?sa ?ga ?gg ?ca ?ex ?ob ?hd ?kp ?cl ?mr ?ty ?ini
      (case ii => kx_is)
      (case ov => kx_is)
      (case sa => k_is)
      (case ga => k_is)
      (case gg => k_is)
      (case ca => k_is)
      (case ex => k_is)
      (case ob => k_is)
      (case hd => k_is)
      (case kp => k_is)
      (case cl => k_is)
      (case mr => rfl)
      (case ty => k_is)
      (case ini => k_is))
    (case S0 =>
      refine' My.raw_0 ?ii ?ov ?sa ?ga ?gg ?ca ?ex ?ob ?hd ?kp ?cl ?mr ?ty ?ini ?tf ?li ?ci ?ki ?n0
      (case ii => kx_is)
      (case ov => kx_is)
      (case sa => k_is)
      (case ga => k_is)
      (case gg => k_is)
      (case ca => k_is)
      (case ex => k_is)
      (case ob => k_is)
      (case hd => k_is)
      (case kp => k_is)
      (case cl => k_is)
      (case mr => rfl)
      (case ty => k_is)
      (case ini => k_is)
      (case tf => k_is)
      (case li => k_is)
      (case ci => k_is)
      (case ki => k_is)
      (case n0 => k_is))
    (case S1 =>
      refine' My.raw_1 ?ii ?ov ?sa ?ga ?gg ?ca ?ex ?ob ?hd ?kp ?cl ?mr ?ty ?ini ?tf ?li ?ci ?ki ?n0
      (case ii => kx_is)
      (case ov => kx_is)
      (case sa => k_is)
      (case ga => k_is)
      (case gg => k_is)
      (case ca => k_is)
      (case ex => k_is)
      (case ob => k_is)
      (case hd => k_is)
      (case kp => k_is)
      (case cl => k_is)
      (case mr => rfl)
      (case ty => k_is)
      (case ini => k_is)
      (case tf => k_is)
      (case li => k_is)
      (case ci => k_is)
      (case ki => k_is)
      (case n0 => k_is))
    (case S2 =>
      refine' My.raw_2 ?ii ?ov ?sa ?ga ?gg ?ca ?ex ?ob ?hd ?kp ?cl ?mr ?ty ?ini ?tf ?li ?ci ?ki ?n0 ?n1
      (case ii => kx_is)
      (case ov => kx_is)
      (case sa => k_is)
      (case ga => k_is)
      (case gg => k_is)
      (case ca => k_is)
      (case ex => k_is)
      (case ob => k_is)
      (case hd => k_is)
      (case kp => k_is)
      (case cl => k_is)
      (case mr => rfl)
      (case ty => k_is)
      (case ini => k_is)
      (case tf => k_is)
      (case li => k_is)
      (case ci => k_is)
      (case ki => k_is)
      (case n0 => k_is)
      (case n1 => k_is))
    (case S3 =>
      refine' My.raw_3 ?ii ?ov ?sa ?ga ?gg ?ca ?ex ?ob ?hd ?kp ?cl ?mr ?ty ?ini ?tf ?li ?ci ?ki ?n0
      (case ii => kx_is)
      (case ov => kx_is)
      (case sa => k_is)
      (case ga => k_is)
      (case gg => k_is)
      (case ca => k_is)
      (case ex => k_is)
      (case ob => k_is)
      (case hd => k_is)
      (case kp => k_is)
      (case cl => k_is)
      (case mr => rfl)
      (case ty => k_is)
      (case ini => k_is)
      (case tf => k_is)
      (case li => k_is)
      (case ci => k_is)
      (case ki => k_is)
      (case n0 => k_is))
    (case S4 =>
      refine' My.raw_4 ?ii ?ov ?sa ?ga ?gg ?ca ?ex ?ob ?hd ?kp ?cl ?mr ?ty ?ini ?tf ?li ?ci ?ki ?n0
      (case ii => kx_is)
      (case ov => kx_is)
      (case sa => k_is)
      (case ga => k_is)
      (case gg => k_is)
      (case ca => k_is)
      (case ex => k_is)
      (case ob => k_is)
      (case hd => k_is)
      (case kp => k_is)
      (case cl => k_is)
      (case mr => rfl)
      (case ty => k_is)
      (case ini => k_is)
      (case tf => k_is)
      (case li => k_is)
      (case ci => k_is)
      (case ki => k_is)
      (case n0 => k_is))
    (case S5 =>
      refine' My.raw_5 ?ii ?ov ?sa ?ga ?gg ?ca ?ex ?ob ?hd ?kp ?cl ?mr ?ty ?ini ?tf ?li ?ci ?ki ?n0 ?n1
      (case ii => kx_is)
      (case ov => kx_is)
      (case sa => k_is)
      (case ga => k_is)
      (case gg => k_is)
      (case ca => k_is)
      (case ex => k_is)
      (case ob => k_is)
      (case hd => k_is)
      (case kp => k_is)
      (case cl => k_is)
      (case mr => rfl)
      (case ty => k_is)
      (case ini => k_is)
      (case tf => k_is)
      (case li => k_is)
      (case ci => k_is)
      (case ki => k_is)
      (case n0 => k_is)
      (case n1 => k_is))
    (case S6 =>
      refine' My.raw_6 ?ii ?ov ?sa ?ga ?gg ?ca ?ex ?ob ?hd ?kp ?cl ?mr ?ty ?ini ?tf ?li ?ci ?ki ?n0
      (case ii => kx_is)
      (case ov => kx_is)
      (case sa => k_is)
      (case ga => k_is)
      (case gg => k_is)
      (case ca => k_is)
      (case ex => k_is)
      (case ob => k_is)
      (case hd => k_is)
      (case kp => k_is)
      (case cl => k_is)
      (case mr => rfl)
      (case ty => k_is)
      (case ini => k_is)
      (case tf => k_is)
      (case li => k_is)
      (case ci => k_is)
      (case ki => k_is)
      (case n0 => k_is))
    (case S7 =>
      refine' My.raw_7 ?ii ?ov ?sa ?ga ?gg ?ca ?ex ?ob ?hd ?kp ?cl ?mr ?ty ?ini ?tf ?li ?ci ?ki ?n0
      (case ii => kx_is)
      (case ov => kx_is)
      (case sa => k_is)
      (case ga => k_is)
      (case gg => k_is)
      (case ca => k_is)
      (case ex => k_is)
      (case ob => k_is)
      (case hd => k_is)
      (case kp => k_is)
      (case cl => k_is)
      (case mr => rfl)
      (case ty => k_is)
      (case ini => k_is)
      (case tf => k_is)
      (case li => k_is)
      (case ci => k_is)
      (case ki => k_is)
      (case n0 => k_is))
    (case S8 =>
      refine' My.raw_8 ?ii ?ov ?sa ?ga ?gg ?ca ?ex ?ob ?hd ?kp ?cl ?mr ?ty ?ini ?tf ?li ?ci ?ki ?n0
      (case ii => kx_is)
      (case ov => kx_is)
      (case sa => k_is)
      (case ga => k_is)
      (case gg => k_is)
      (case ca => k_is)
      (case ex => k_is)
      (case ob => k_is)
      (case hd => k_is)
      (case kp => k_is)
      (case cl => k_is)
      (case mr => rfl)
      (case ty => k_is)
      (case ini => k_is)
      (case tf => k_is)
      (case li => k_is)
      (case ci => k_is)
      (case ki => k_is)
      (case n0 => k_is))
    (case S9 =>
      refine' My.raw_9 ?ii ?ov ?sa ?ga ?gg ?ca ?ex ?ob ?hd ?kp ?cl ?mr ?ty ?ini ?tf ?li ?ci ?ki ?n0
      (case ii => kx_is)
      (case ov => kx_is)
      (case sa => k_is)
      (case ga => k_is)
      (case gg => k_is)
      (case ca => k_is)
      (case ex => k_is)
      (case ob => k_is)
      (case hd => k_is)
      (case kp => k_is)
      (case cl => k_is)
      (case mr => rfl)
      (case ty => k_is)
      (case ini => k_is)
      (case tf => k_is)
      (case li => k_is)
      (case ci => k_is)
      (case ki => k_is)
      (case n0 => k_is))
    (case S10 =>
      refine' My.raw_10 ?ii ?ov ?sa ?ga ?gg ?ca ?ex ?ob ?hd ?kp ?cl ?mr ?ty ?ini ?tf ?li ?ci ?ki ?n0
      (case ii => kx_is)
      (case ov => kx_is)
      (case sa => k_is)
      (case ga => k_is)
      (case gg => k_is)
      (case ca => k_is)
      (case ex => k_is)
      (case ob => k_is)
      (case hd => k_is)
      (case kp => k_is)
      (case cl => k_is)
      (case mr => rfl)
      (case ty => k_is)
      (case ini => k_is)
      (case tf => k_is)
      (case li => k_is)
      (case ci => k_is)
      (case ki => k_is)
      (case n0 => k_is))
    (case S11 =>
      refine' My.raw_11 ?ii ?ov ?sa ?ga ?gg ?ca ?ex ?ob ?hd ?kp ?cl ?mr ?ty ?ini ?tf ?li ?ci ?ki ?n0
      (case ii => kx_is)
      (case ov => kx_is)
      (case sa => k_is)
      (case ga => k_is)
      (case gg => k_is)
      (case ca => k_is)
      (case ex => k_is)
      (case ob => k_is)
      (case hd => k_is)
      (case kp => k_is)
      (case cl => k_is)
      (case mr => rfl)
      (case ty => k_is)
      (case ini => k_is)
      (case tf => k_is)
      (case li => k_is)
      (case ci => k_is)
      (case ki => k_is)
      (case n0 => k_is))
    (case S12 =>
      refine' My.raw_12 ?ii ?ov ?sa ?ga ?gg ?ca ?ex ?ob ?hd ?kp ?cl ?mr ?ty ?ini ?tf ?li ?ci ?ki ?n0
      (case ii => kx_is)
      (case ov => kx_is)
      (case sa => k_is)
      (case ga => k_is)
      (case gg => k_is)
      (case ca => k_is)
      (case ex => k_is)
      (case ob => k_is)
      (case hd => k_is)
      (case kp => k_is)
      (case cl => k_is)
      (case mr => rfl)
      (case ty => k_is)
      (case ini => k_is)
      (case tf => k_is)
      (case li => k_is)
      (case ci => k_is)
      (case ki => k_is)
      (case n0 => k_is))
    (case S13 =>
      refine' My.raw_13 ?ii ?ov ?sa ?ga ?gg ?ca ?ex ?ob ?hd ?kp ?cl ?mr ?ty ?ini ?tf ?li ?ci ?ki ?n0
      (case ii => kx_is)
      (case ov => kx_is)
      (case sa => k_is)
      (case ga => k_is)
      (case gg => k_is)
      (case ca => k_is)
      (case ex => k_is)
      (case ob => k_is)
      (case hd => k_is)
      (case kp => k_is)
      (case cl => k_is)
      (case mr => rfl)
      (case ty => k_is)
      (case ini => k_is)
      (case tf => k_is)
      (case li => k_is)
      (case ci => k_is)
      (case ki => k_is)
      (case n0 => k_is))
    (case S14 =>
      refine' My.raw_14 ?ii ?ov ?sa ?ga ?gg ?ca ?ex ?ob ?hd ?kp ?cl ?mr ?ty ?ini ?tf ?li ?ci ?ki ?n0 ?n1
      (case ii => kx_is)
      (case ov => kx_is)
      (case sa => k_is)
      (case ga => k_is)
      (case gg => k_is)
      (case ca => k_is)
      (case ex => k_is)
      (case ob => k_is)
      (case hd => k_is)
      (case kp => k_is)
      (case cl => k_is)
      (case mr => rfl)
      (case ty => k_is)
      (case ini => k_is)
      (case tf => k_is)
      (case li => k_is)
      (case ci => k_is)
      (case ki => k_is)
      (case n0 => k_is)
      (case n1 => k_is))
    (case S15 =>
      refine' My.raw_15 ?ii ?ov ?sa ?ga ?gg ?ca ?ex ?ob ?hd ?kp ?cl ?mr ?ty ?ini ?tf ?li ?ci ?ki ?n0
      (case ii => kx_is)
      (case ov => kx_is)
      (case sa => k_is)
      (case ga => k_is)
      (case gg => k_is)
      (case ca => k_is)
      (case ex => k_is)
      (case ob => k_is)
      (case hd => k_is)
      (case kp => k_is)
      (case cl => k_is)
      (case mr => rfl)
      (case ty => k_is)
      (case ini => k_is)
      (case tf => k_is)
      (case li => k_is)
      (case ci => k_is)
      (case ki => k_is)
      (case n0 => k_is))
    (case S16 =>
      refine' My.raw_16 ?ii ?ov ?sa ?ga ?gg ?ca ?ex ?ob ?hd ?kp ?cl ?mr ?ty ?ini ?tf ?li ?ci ?ki ?n0 ?n1
      (case ii => kx_is)
      (case ov => kx_is)
      (case sa => k_is)
      (case ga => k_is)
      (case gg => k_is)
      (case ca => k_is)
      (case ex => k_is)
      (case ob => k_is)
      (case hd => k_is)
      (case kp => k_is)
      (case cl => k_is)
      (case mr => rfl)
      (case ty => k_is)
      (case ini => k_is)
      (case tf => k_is)
      (case li => k_is)
      (case ci => k_is)
      (case ki => k_is)
      (case n0 => k_is)
      (case n1 => k_is))
    (case S17 =>
      refine' My.raw_17 ?ii ?ov ?sa ?ga ?gg ?ca ?ex ?ob ?hd ?kp ?cl ?mr ?ty ?ini ?tf ?li ?ci ?ki ?n0
      (case ii => kx_is)
      (case ov => kx_is)
      (case sa => k_is)
      (case ga => k_is)
      (case gg => k_is)
      (case ca => k_is)
      (case ex => k_is)
      (case ob => k_is)
      (case hd => k_is)
      (case kp => k_is)
      (case cl => k_is)
      (case mr => rfl)
      (case ty => k_is)
      (case ini => k_is)
      (case tf => k_is)
      (case li => k_is)
      (case ci => k_is)
      (case ki => k_is)
      (case n0 => k_is))
    (case S18 =>
      refine' My.raw_18 ?ii ?ov ?sa ?ga ?gg ?ca ?ex ?ob ?hd ?kp ?cl ?mr ?ty ?ini ?tf ?li ?ci ?ki ?n0
      (case ii => kx_is)
      (case ov => kx_is)
      (case sa => k_is)
      (case ga => k_is)
      (case gg => k_is)
      (case ca => k_is)
      (case ex => k_is)
      (case ob => k_is)
      (case hd => k_is)
      (case kp => k_is)
      (case cl => k_is)
      (case mr => rfl)
      (case ty => k_is)
      (case ini => k_is)
      (case tf => k_is)
      (case li => k_is)
      (case ci => k_is)
      (case ki => k_is)
      (case n0 => k_is))
    (case S19 =>
      refine' My.raw_19 ?ii ?ov ?sa ?ga ?gg ?ca ?ex ?ob ?hd ?kp ?cl ?mr ?ty ?ini ?tf ?li ?ci ?ki ?n0
      (case ii => kx_is)
      (case ov => kx_is)
      (case sa => k_is)
      (case ga => k_is)
      (case gg => k_is)
      (case ca => k_is)
      (case ex => k_is)
      (case ob => k_is)
      (case hd => k_is)
      (case kp => k_is)
      (case cl => k_is)
      (case mr => rfl)
      (case ty => k_is)
      (case ini => k_is)
      (case tf => k_is)
      (case li => k_is)
      (case ci => k_is)
      (case ki => k_is)
      (case n0 => k_is))
    (case S20 =>
      refine' My.raw_20 ?ii ?ov ?sa ?ga ?gg ?ca ?ex ?ob ?hd ?kp ?cl ?mr ?ty ?ini ?tf ?li ?ci ?ki
      (case ii => kx_is)
      (case ov => kx_is)
      (case sa => k_is)
      (case ga => k_is)
      (case gg => k_is)
      (case ca => k_is)
      (case ex => k_is)
      (case ob => k_is)
      (case hd => k_is)
      (case kp => k_is)
      (case cl => k_is)
      (case mr => rfl)
      (case ty => k_is)
      (case ini => k_is)
      (case tf => k_is)
      (case li => k_is)
      (case ci => k_is)
      (case ki => k_is))
    (case S21 =>
      refine' My.raw_21 ?ii ?ov ?sa ?ga ?gg ?ca ?ex ?ob ?hd ?kp ?cl ?mr ?ty ?ini ?tf ?li ?ci ?ki ?n0
      (case ii => kx_is)
      (case ov => kx_is)
      (case sa => k_is)
      (case ga => k_is)
      (case gg => k_is)
      (case ca => k_is)
      (case ex => k_is)
      (case ob => k_is)
      (case hd => k_is)
      (case kp => k_is)
      (case cl => k_is)
      (case mr => rfl)
      (case ty => k_is)
      (case ini => k_is)
      (case tf => k_is)
      (case li => k_is)
      (case ci => k_is)
      (case ki => k_is)
      (case n0 => k_is))
    (case nd => decide)

