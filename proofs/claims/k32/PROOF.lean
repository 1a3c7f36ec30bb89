import PyProof.Rows.All
import Wide.All
import OpenK.AllK
import Wide.FinOn
import HandS.ForMost
import HandS.IsInst
import HandS.Walk
import KE.KExcPX
import KE.KExcInit
import KE.KExcIs
import HandS.ExcInit
import PyProof.ReprLen
import HandS.ForExc
import HandS.ExcField
import HandS.TryMany
import HandS.CallSlots
import HandS.Strs
import HandS.TupAny
import PyProof.ReprHeadsEmpty
import HandS.WideBits
import HandS.DeepEq
import HandS.CallLocal
import HandS.WrittenGet
import HandS.Defaults
import HandS.Style
import PyProof.ReprText
import HandS.MakeKwOnly
import KE.KExcLine
import PySem.Challenge.RW_relinktree_k32_forwards
set_option Elab.async false
set_option linter.all false
set_option maxRecDepth 100000
set_option maxHeartbeats 4000000
/-! Defs whose promise needs to know that no repr is under way: the layer's def, call and end once more with that premise. -/
namespace Gy
open PySem PySem.Spec PyProof.Rows L2

/-- repr of data at an address -/
theorem repr_dat {X : Cx} (hg : X.A.guards = some []) (hu : X.A.units + 70 < cLine) :
    CallR X (.builtin "repr") (fun xs H Q => ∃ a d, xs = [.ref a] ∧ Dp X.K H (.ref a) d ∧ d.showable = true ∧ d.hasDict = false ∧ d.depth ≤ 60 ∧
      d.shown.length ≤ sizeLine ∧ Q (.str d.shown) H) := by
  intro pins s σ H xs us Q I r h
  obtain ⟨a, d, rfl, hd, h1, h2, h3, h4, q⟩ := h
  obtain ⟨u, rfl, ru⟩ := vals1 r
  obtain ⟨as, rd⟩ := Dp.reads I d _ u hd ru
  cases ru
  refine repr_of_reads' rd h1 (fun z => ?_) hg (by omega) (fun _ _ e => e) (fun h' u tk hk => ?_) h4
  · rw [h2] at z
    cases z
  · exact ⟨.str _, H, I.kept hk, ⟨u, rfl⟩, q⟩

/-- a def's promise, where no repr is under way -/
structure FnG (P : Program) (w : World) (K : PySem.W.Frag) (mg : Str → Option Value) (base : Heap)
    (CX : CXT) (k : Nat) (f : Addr) (fd : FuncData) (ps : List Str) (sp : Sp) : Prop where
  ln : ∀ {vs H Q E}, sp vs H Q E → vs.length = ps.length
  go : ∀ {A outer s H args us vs Q E}, A.guards = some [] → Room k A → Env0 P w K mg base A outer s H →
    BindsTo s fd args (ps.zip us) → Vals vs us → sp vs H Q E → codeAny (model P w) A (.call (.ref f) args) (CR CX outer P w H s Q E) s

section
variable {P : Program} {w : World} {K : PySem.W.Frag} {mg : Str → Option Value} {base : Heap} {CX : CXT} {k : Nat} {f : Addr} {fd : FuncData} {ps N : List Str} {sp : Sp}
theorem FnG.up {j : Nat} (F : FnG P w K mg base CX j f fd ps sp) (h : j ≤ k) : FnG P w K mg base CX k f fd ps sp :=
  ⟨F.ln, fun g hr => F.go g (hr.mono h)⟩
theorem FnG.of (F : FnOk P w K mg base CX k f fd ps sp) : FnG P w K mg base CX k f fd ps sp :=
  ⟨fun h => F.len _ _ _ _ h, fun _ hr e b v h => F.run _ _ _ _ _ _ _ _ _ hr e b v h⟩

theorem fun_g {x qual : Str} {st : Stmt} (F : Fun K x qual st f fd) (S : FnScope N ps (defScope st)) (ln : ∀ {vs H Q E}, sp vs H Q E → vs.length = ps.length)
    (bd : ∀ (cdv : Value) (A : Around) (outer : List Env) (s : Shared) (H : Hp) (vs : List V) (Q : VK) (E : XK), A.guards = some [] →
      Room k (A.deeper (envOfC qual (defScope st) s.heap.objs.size f cdv)) → sp vs H Q E →
      ∃ t, PSs (cxOf CX P w K mg base N qual (defScope st) f cdv A outer s H E) (defBody st) t ∧
        t { nx := fun _ H' => Q .non H', rt := Q } (start N vs) H) :
    FnG P w K mg base CX (k + 1) f fd ps sp := by
  obtain ⟨oc, od, kV, doc, pm, an, cdv, ct, osl, rfl, lk, hcd⟩ := F.ex
  refine ⟨ln, ?_⟩
  intro A outer s H args us vs Q E g hr e0 hb rl hsp
  have stay : ∀ b o, base.get? b = some o → s.heap.get? b = some o := fun b o e => (e0.bs b o e).1
  have kin := e0.mod.kin.keeps stay
  have nol := e0.mod.nolimit.keeps stay
  refine codeAny_call_function hr.depth (kin _ _ lk) rfl S.co S.gen rfl (PySem.W.codeRec_of kin hcd) (hb _ _ _ _ ?_)
  refine wpAny_newFunctionEnv_cells S.kind ?_ ?_
  · rintro ⟨n, v⟩ hy
    refine (S.par n (List.of_mem_zip hy).1).imp id fun q => ⟨q, ?_⟩
    exact PySem.W.cellsFrom_some _ _ _ (.inl q)
  · rintro env rfl s1 x
    refine ⟨nol.keeps x.toInCall.keep, codeAny_func ?_⟩
    obtain ⟨t, ht, hq⟩ := bd cdv A outer s H vs Q E g (hr.deeper _) hsp
    have I := inv_start (CX := CX) (E := E) (outer := outer) S hr.hd e0 (ln hsp) rl x
    refine wpAny_mono (ht.run [] s1 (start N vs) H _ I hq) ?_ (fun _ _ z => z)
    rintro (_ | _ | _ | u) s' z
    all_goals first
      | (obtain ⟨σ', H', J, q⟩ := z
         exact ⟨V.non, H', J.os, J.bare, J.base, J.hok, rfl, q⟩)
      | (obtain ⟨_, _, _, q⟩ := z
         exact q.elim)
      | (obtain ⟨v, σ', H', J, rv, q⟩ := z
         exact ⟨v, H', J.os, J.bare, J.base, J.hok, rv, q⟩)
end
end Gy

namespace Gy
open PySem PySem.Spec PyProof.Rows L2

/-- the readings of the two calls below -/
def tG (sp : Sp) (E : XK) (t : TA) : TE := fun σ H Q => t σ H fun vs H1 => sp vs H1 Q E
def tKw0 (sp : Sp) (gV : List V → List V → List V) (E : XK) (tk : TA) : TE := fun σ H Q => tk σ H fun zs H1 => sp (gV [] zs) H1 Q E
section
variable {X : Cx} {CX : CXT} {k : Nat} {f : Addr} {fd : FuncData} {ps ks : List Str} {sp : Sp} {E : XK} {x : Str} {p pos : Pos} {e : Expr} {es : List Expr} {kws : List Keyword} {t tk : TA}
variable {g : List Value → List Value → List Value} {gV : List V → List V → List V}
/-- f(e, ..) of a def that wants to know of repr -/
theorem pe_callG (F : FnG X.prog X.w X.K X.mg X.base CX k f fd ps sp) (gd : X.A.guards = some []) (hr : Room k X.A) (hg : Gl X x)
    (hm : X.mg x = some (.ref f)) (hk : PySem.W.keepIn X.K (.ref f) = true) (hb : Binds X.K fd ps []) (hx : Passes CX X E) (ha : PA X (e :: es) t)
    (hdb : (x == ("__debug__" : Str)) = false := by decide) (he : starEach (e :: es) X.env = (false, eval e X.env) :: starEach es X.env := by rfl)
    (hpl : (backTo pos (starEach es X.env)).any (·.1) = false := by rfl) :
    PE X (.Call (.Name x p) (e :: es) [] pos) (tG sp E t) := by
  constructor
  intro pins s σ H Q I h
  refine wpAny_Call_Name_kw (ld_glob I hg hm ?_ hdb)
  refine PySem.W.callWith_K (h₀ := X.base) I.ok.mod.kin hk (thn (ha.run pos pins s σ H _ I h) ?_) he hpl
  rintro us s1 ⟨vs, H1, I1, r, q⟩
  refine ⟨I1.kIn, wpAny_call (codeAny_mono (F.go (args := ⟨us, []⟩) gd hr I1.env0 ?_ r q) ?_)⟩
  · have b := hb s1 us I1.kIn (by rw [List.append_nil, ← r.length]; exact F.ln q)
    rwa [List.append_nil] at b
  · rintro (er | (_ | _ | _ | u)) s' z
    · exact hx pins σ H1 s1 er s' I1 z
    · exact z.elim
    · exact z.elim
    · exact z.elim
    · exact I1.after z
/-- f(k = v, ..), nothing by position -/
theorem pe_kw0 (F : FnOk X.prog X.w X.K X.mg X.base CX k f fd ps sp) (hr : Room k X.A) (hg : Gl X x) (hm : X.mg x = some (.ref f))
    (hk : PySem.W.keepIn X.K (.ref f) = true) (hb : KBinds X.K fd ps ks g gV) (hx : Passes CX X E) (hkw : PK X kws tk)
    (hall : (backToKw pos (keywordEach kws X.env)).all (·.1.isSome) = true := by rfl) (hks : (backToKw pos (keywordEach kws X.env)).filterMap (·.1) = ks := by rfl)
    (hdb : (x == ("__debug__" : Str)) = false := by decide)
    (hpl : ((backTo pos (starEach [] X.env)).any (·.1) || (backToKw pos (keywordEach kws X.env)).any (·.1.isNone)) = false := by rfl) :
    PE X (.Call (.Name x p) [] kws pos) (tKw0 sp gV E tk) := by
  constructor
  intro pins s σ H Q I h
  refine wpAny_Call_Name_kw (ld_glob I hg hm ?_ hdb)
  refine PySem.W.callWith_KW0 (h₀ := X.base) I.ok.mod.kin hk hall (thn (hkw.run pos pins s σ H _ I h) ?_) hpl
  rintro ws s2 ⟨zs, H2, I2, rz, q2⟩
  rw [hks]
  exact ⟨I2.kIn, run_fnk (us := []) F hr hb hx I2 .nil rz q2⟩
end

/-- the law's call, its def a FnG -/
theorem end_g {P : Program} {w : World} {K : PySem.W.Frag} {mg mb : Str → Option Value} {CX : CXT} {k : Nat} {fa a : Addr} {fd : FuncData} {x : Str} {sp : Sp}
    {s : Shared} {vs : List Value} {ns : List Int} (kin : K.In s.heap) (hns : s.heap.Ns mainGlobals mg) (hb : s.heap.Ns builtinsNs mb)
    (hbb : ∀ x : Str, x ≠ "__name__" → mb x = bootBuiltins x) (nol : s.heap.NoLimit) (hg : s.gens = #[])
    (ha : s.heap.get? a = some { cls := .type "list", data := .seq vs.toArray }) (hi : IntsAre vs ns) (hl : ns.length ≤ sizeLine) (hr : Room k callerA)
    (F : ∀ base : Heap, K.In base → base.Ns mainGlobals mg → FnG P w K mg base CX k fa fd [x] sp)
    (bnd : ∀ (s : Shared) (u : Value), BindsTo s fd ⟨[u], []⟩ [(x, u)])
    (hsp : ∀ H : Hp, Only H → SqL K H a (ns.map V.int) → sp [.ref a] H (fun v _ => v = .bl true) fun _ _ _ => False)
    (hCX : ∀ H e s', CX [] H s (fun _ _ _ => False) e s' → False) :
    codeAny (model P w) callerA (.call (.ref fa) ⟨[.ref a], []⟩)
      (fun r s' => r = .ok (.ret (.bool true)) ∧ OldK s.heap s'.heap ∧ s'.os = s.os ∧ AllBare s'.gens) s := by
  have main : ∀ H : Hp, Only H → SqL K H a (ns.map V.int) → HOk P w H s.heap → (∀ b, H b ≠ none → b = a) → (H a ≠ none → K.lookup a = none) →
      codeAny (model P w) callerA (.call (.ref fa) ⟨[.ref a], []⟩)
        (fun r s' => r = .ok (.ret (.bool true)) ∧ OldK s.heap s'.heap ∧ s'.os = s.os ∧ AllBare s'.gens) s := by
    intro H only seq hok alone notK
    have noD : ∀ {b o es ep}, s.heap.get? b = some o → o.data = .dict es ep → H b = none := by
      intro b o es ep e d
      cases q : H b with
      | none => rfl
      | some u =>
        obtain rfl := alone b (by rw [q]; exact fun z => nomatch z)
        rw [ha] at e
        cases e
        exact nomatch d
    have nsB : ∀ {b m}, s.heap.Ns b m → (hidT s.heap H).Ns b m := by
      rintro b m ⟨o, es, ep, e, d, r⟩
      exact ⟨o, es, ep, hidT_get e (noD e d), d, r⟩
    have kB : K.In (hidT s.heap H) := by
      intro b o e
      refine hidT_get (kin b o e) ?_
      cases q : H b with
      | none => rfl
      | some u =>
        obtain rfl := alone b (by rw [q]; exact fun z => nomatch z)
        rw [notK (by rw [q]; exact fun z => nomatch z)] at e
        cases e
    obtain ⟨mc, l1, l2⟩ := nol
    have e0 : Env0 P w K mg (hidT s.heap H) callerA [] s H := by
      refine ⟨rfl, ⟨kB, nsB hns, ⟨mb, nsB hb, hbb⟩, ⟨mc, nsB l1, l2⟩⟩, fun b o e => of_hidT e, Nat.le_of_eq (hidT_size _ _), trivial, ?_, hok, .of_eq hg⟩
      intro b z
      exact nomatch (show b ∈ ([] : List Addr) from z)
    have run := (F _ kB (nsB hns)).go (A := callerA) (args := ⟨[.ref a], []⟩) (us := [.ref a]) (vs := [V.ref a]) rfl hr e0 (bnd s (.ref a)) (.cons rfl .nil) (hsp H only seq)
    refine codeAny_mono run ?_
    rintro (er | (_ | _ | _ | u)) s' z
    · exact (hCX H er s' z).elim
    · exact z.elim
    · exact z.elim
    · exact z.elim
    · obtain ⟨v, H', os, bare, un, hok', rv, q⟩ := z
      cases (show v = .bl true from q)
      cases (show u = Value.bool true from rv)
      refine ⟨rfl, OldK.of_keep fun b o e => ?_, os, bare⟩
      rcases only b with n | ⟨ob, xs, y⟩
      · exact un.keep b o e n (fun z => nomatch (show b ∈ ([] : List Addr) from z)) (fun z => nomatch z)
      · obtain ⟨e1, _⟩ := hok b _ y
        obtain ⟨e2, _⟩ := hok' b _ (un.frzs b ob _ y)
        rw [e] at e1
        cases e1
        exact e2
  have rv := vals_ints hi
  cases hk : K.lookup a with
  | some o =>
    have e := kin a o hk
    rw [ha] at e
    cases e
    refine main (fun _ => none) (fun _ => .inl rfl) (.inr ⟨_, vs.toArray, _, hk, rfl, rfl, rfl, ?_, rv⟩) (fun b u z => nomatch z) (fun b z => absurd rfl z) (fun z => absurd rfl z)
    rw [List.size_toArray, hi.length]
    exact hl
  | none =>
    let ob : Obj := { cls := .type "list", data := .seq vs.toArray }
    refine main (fun b => if b = a then some (.frz ob (.lst (ns.map V.int))) else none) (fun b => ?_) (.inl (.inr ⟨ob, if_pos rfl⟩)) (fun b u z => ?_) (fun b z => ?_) (fun _ => hk)
    · by_cases q : b = a
      · exact .inr ⟨_, _, if_pos q⟩
      · exact .inl (if_neg q)
    · by_cases q : b = a
      · have y := (if_pos q).symm.trans z
        cases y
        subst q
        exact ⟨ha, by rw [List.length_map]; exact hl, vs, _, rv, ha⟩
      · have y := (if_neg q).symm.trans z
        cases y
    · by_cases q : b = a
      · exact q
      · exact absurd (if_neg q) z

/-- what k_head leaves, from a law that is a FnG -/
theorem walk_g {l : PySem.W.OpenLaw} {n k : Nat} {q : Program} {loose : List Str} {XP : (Str → Option Value) → Heap → Prop} {YP : World → Heap → Prop} {d : DefRec}
    {K : Params → PySem.W.Frag} {sp : PySem.W.Frag → Sp} {x : Str} (hn : l.most = some n) (hn2 : n ≤ sizeLine) (hdf : d.params.defaults = []) (hr : Room k callerA)
    (hY : ∀ (w : World) (h : Heap), YP w h → (K w.params).In h)
    (F : ∀ (w : World) (mg : Str → Option Value) (fa : Addr) (h : Heap), (K w.params).In h → h.Ns mainGlobals mg → mg d.name = some (.ref fa) →
      ∃ fd : FuncData, (∀ (s : Shared) (u : Value), BindsTo s fd ⟨[u], []⟩ [(x, u)]) ∧
        ∀ base : Heap, (K w.params).In base → base.Ns mainGlobals mg → FnG l.prog w (K w.params) mg base CX0 k fa fd [x] (sp (K w.params)))
    (hsp : ∀ (K : PySem.W.Frag) (H : Hp) (a : Addr) (ns : List Int), ns.length ≤ n → SqL K H a (ns.map V.int) → sp K [.ref a] H (fun v _ => v = .bl true) fun _ _ _ => False) :
    PySem.W.WalkO q loose XP YP l.row.toRowW d [] (fun f vs => PySem.call f vs) := by
  refine Att.attach_call hn hdf ?_
  intro w s₀ s₁ mg mb fa o pm cd doc a vs ns G Y ho hd hcd hmg hobj hints hlen hg
  have kin := hY w _ Y
  obtain ⟨fd, hb, hF⟩ := F w mg fa _ kin G.T.g hmg
  exact end_g kin G.T.g G.T.b G.T.builtins G.T.nolimit hg hobj hints (Nat.le_trans hlen hn2) hr hF hb (fun H _ hS => hsp _ H a ns hlen hS) (fun _ _ _ z => z)
end Gy

/-! An own exception class called with keywords: BaseException.__new__ takes them and forgets them, the own __init__ gets them. -/
namespace PySem
namespace Xg
open Builtin Builtin.ObjectAttr
section
variable {M : Model} {A : Around} {E : Value → Shared → Prop} {h : Heap} {g : Array GenState} {d : Drawn} {t : Nat} {os : OsState}
variable {nm q : Str} {C N : Addr} {bs bm bmB : List Value} {hdct : Bool} {sn : List Str} {sub : List Value} {ab : Bool} {col : Option Bool} {dd : Option Addr} {k0 k1 k2 k3 k5 : Option Value} {B newId initId : String}
theorem kw_check (F : ExcBaseFacts B newId initId bmB) (hT : ∀ X : String, bm.contains (.type X) = bmB.contains (.type X)) {us : List Value} {kw : List (Str × Value)} {Q : Unit → Shared → Prop}
    (cl : h.get? C = some (excClassObj nm q C N bs bm hdct sn sub ab col dd k0 k1 k2 k3 k5 newId)) (z : Q () ⟨h, g, d, t, os⟩) :
    wpAny M A (checkBuiltinCall newId ⟨.ref C :: us, kw⟩) Q E ⟨h, g, d, t, os⟩ := by
  have has : (Value.ref C :: bm).contains (.type B) = true := by
    rw [List.contains_cons, hT, F.hasB, Bool.or_true]
  have star := F.noStar
  simp only [checkBuiltinCall, F.newKind, F.newSplit, F.newRow]
  repeat (first
    | refine wpAny_loadPart_at cl ?_
    | (refine wpAny_isSubtype_exc cl ?_; rw [has])
    | refine wpAny_staticBase_exc cl ?_
    | refine wpAny_madeBy_exc cl ?_
    | simp only [bne_self_eq_false, Bool.false_eq_true, if_false]
    | wp_step)
  exact z
end
section
variable {prog : Program} {w : World} {A : Around} {E : Value → Shared → Prop} {R : Result → Shared → Prop} {h : Heap} {g : Array GenState} {d : Drawn} {t : Nat} {os : OsState}
variable {nm q : Str} {C N : Addr} {bs bm bmB : List Value} {hdct : Bool} {sn : List Str} {sub : List Value} {ab : Bool} {col : Option Bool} {dd : Option Addr} {k0 k1 k2 k3 k5 : Option Value} {B newId initId : String}
theorem kw_new (F : ExcBaseFacts B newId initId bmB) (hT : ∀ X : String, bm.contains (.type X) = bmB.contains (.type X)) {us : List Value} {kw : List (Str × Value)}
    (cl : h.get? C = some (excClassObj nm q C N bs bm hdct sn sub ab col dd k0 k1 k2 k3 k5 newId))
    (z : R (.ok (.ret (.ref (h.objs.size + 1)))) ⟨(h.push (W.kdv_tup us)).push (PX.excO C h.objs.size), g, d, t, os⟩) (len : us.length ≤ sizeLine) :
    codeAny (model prog w) A (.builtin newId ⟨.ref C :: us, kw⟩) R ⟨h, g, d, t, os⟩ := by
  have ends := F.ends
  have hB : (Value.ref C :: bm).contains (.type B) = true := by
    rw [List.contains_cons, hT, F.hasB, Bool.or_true]
  have hA : (Value.ref C :: bm).contains (.type "AttributeError") = false := by
    rw [List.contains_cons, hT, F.noAttr]
    rfl
  have hN : (Value.ref C :: bm).contains (.type "NameError") = false := by
    rw [List.contains_cons, hT, F.noName]
    rfl
  refine codeAny_builtinAt F.entry ?_
  unfold Builtin.«BaseException.__new__»
  refine wpAt_bind ?_
  show wpAt _ _ _ (stack >>= _) _ _ _
  refine wpAt_bind (wpAt_stack fun p below => wpAt_of_wpAny ?_)
  wp_walk
  refine wpAt_of_wpAny ?_
  rw [F.owner]
  repeat (first
    | with_reducible refine wpAny_madeHere_exc F.canon cl ?_
    | with_reducible refine wpAny_loadPart_at cl ?_
    | (with_reducible refine wpAny_isSubtype_exc cl ?_; first | rw [hB] | rw [hA] | rw [hN])
    | wp_step)
  show R _ _
  rw [Heap.size_push]
  exact z
theorem kw_type (F : ExcBaseFacts B newId initId bmB) (hT : ∀ X : String, bm.contains (.type X) = bmB.contains (.type X)) {us : List Value} {kw : List (Str × Value)} {fI : Addr} {Q : Fin → Shared → Prop}
    (cl : h.get? C = some (excClassObj nm q C N bs bm hdct sn sub ab col dd k0 k1 k2 k3 k5 newId))
    (hi : W.Looks (model prog w) h (typeLookup (.ref C) "__init__") (some (.ref fI))) (hb : ∀ self, W.Looks (model prog w) h (bindSpecial (.ref fI) self) (.ref fI, [self]))
    (len : us.length ≤ sizeLine)
    (z : codeAny (model prog w) A (.call (.ref fI) ⟨.ref (h.objs.size + 1) :: us, kw⟩)
      (fun r s' => match r with | .ok (.ret v) => v = .none ∧ Q (.done (.ret (.ref (h.objs.size + 1)))) s' | .ok _ => False | .error e => E e s')
      ⟨(h.push (W.kdv_tup us)).push (PX.excO C h.objs.size), g, d, t, os⟩) :
    wpAny (model prog w) A (Builtin.«type.__call__» ⟨.ref C :: us, kw⟩) Q E ⟨h, g, d, t, os⟩ := by
  repeat (first
    | with_reducible refine wpAny_loadPart_at cl ?_
    | with_reducible refine wpAny_madeBy_exc cl ?_
    | wp_step)
  refine codeAny_call_builtin_code (Code.quiet_builtin _ F.quiet) (kw_check F hT cl ?_)
  refine kw_new F hT cl ?_ len
  show wpAny _ _ _ _ _ _
  have keep : ∀ b o, h.get? b = some o → ((h.push (W.kdv_tup us)).push (PX.excO C h.objs.size)).get? b = some o := fun b o e =>
    Heap.get?_push_of_some _ (Heap.get?_push_of_some _ e)
  have cl1 := keep _ _ cl
  have new : ((h.push (W.kdv_tup us)).push (PX.excO C h.objs.size)).get? (h.objs.size + 1) = some (PX.excO C h.objs.size) := by heap_get
  have self : (Value.ref C :: bm).contains (.ref C) = true := by simp
  have i1 := hi.keeps keep
  have b1 := (hb (.ref (h.objs.size + 1))).keeps keep
  unfold isInstance
  repeat (first
    | with_reducible refine wpAny_loadPart_at new ?_
    | (with_reducible refine wpAny_isSubtype_exc cl1 ?_; rw [self])
    | wp_step)
  show wpAny _ _ (typeLookup (.ref C) _) _ _ _
  refine i1.at ?_
  refine wpAny_holding (wpAny_bind (b1.at ?_))
  refine wpAny_bind (wpAny_call (codeAny_mono z fun r s' y => ?_))
  rcases r with e | (v | _ | _ | _) <;> first | exact y | exact y.elim | skip
  obtain ⟨rfl, y⟩ := y
  first
    | exact wpAny_pure (wpAny_pure y)
    | (wp_walk; exact y)
theorem kw_call (F : ExcBaseFacts B newId initId bmB) (hT : ∀ X : String, bm.contains (.type X) = bmB.contains (.type X)) {us : List Value} {kw : List (Str × Value)} {fI : Addr}
    (cl : h.get? C = some (excClassObj nm q C N bs bm hdct sn sub ab col dd k0 k1 k2 k3 k5 newId))
    (hi : W.Looks (model prog w) h (typeLookup (.ref C) "__init__") (some (.ref fI))) (hb : ∀ self, W.Looks (model prog w) h (bindSpecial (.ref fI) self) (.ref fI, [self]))
    (len : us.length ≤ sizeLine)
    (z : codeAny (model prog w) (A.under (.builtin "type.__call__" ⟨.ref C :: us, kw⟩)) (.call (.ref fI) ⟨.ref (h.objs.size + 1) :: us, kw⟩) (W.InitBack (h.objs.size + 1) R)
      ⟨(h.push (W.kdv_tup us)).push (PX.excO C h.objs.size), g, d, t, os⟩) :
    codeAny (model prog w) A (.call (.ref C) ⟨us, kw⟩) R ⟨h, g, d, t, os⟩ := by
  have f1 := tc_lookup
  have f2 := tc_bind (.ref C)
  have ty : (⟨h, g, d, t, os⟩ : Shared).TypeIs (.ref C) "type" := ⟨_, cl, rfl⟩
  refine codeAny_of_tree ?_
  show wpAny _ _ (callAny (.ref C) _) _ _ _
  repeat (any_goals (first | assumption | with_reducible refine wpAny_loadPart_at cl ?_ | wp_step))
  refine ⟨rfl, ?_⟩
  refine codeAny_call_builtin_at (Code.quiet_builtin _ (by decide +kernel)) entry_typeCall (wpAny_check_type_call_sub cl (kw_type F hT cl hi hb len ?_))
  refine codeAny_mono z fun r s' y => ?_
  rcases r with e | (v | _ | _ | _) <;> exact y
end
end Xg
end PySem

/-! Own exception classes over any built-in base, made as values: by position, by name; their fields stored and read; isinstance. -/
namespace PySem
namespace Xg
open PySem.W PySem.Calls PyProof.Rows Builtin Builtin.ObjectAttr
section
variable {prog : Program} {w : World} {A : Around} {R : Result → Shared → Prop} {hp : Heap} {g : Array GenState} {d : Drawn} {t : Nat} {os : OsState} {K : Frag} {B : String} {bmB : List Value}
/-- the first field: the dict is made -/
theorem osa_first (SF : StoreFacts B bmB "object.__setattr__" "object") {name : Str} {tk : Tok} {v : Value} {x C t1 : Addr} (kin : K.In hp)
    (at_ : hp.get? x = some (PX.excO C t1)) (ov : excOver K C bmB = true) (no : takerIn K C name = some none) (hh : hasDictIn K C = true)
    (z : ∀ h' tk' dx, (∀ b o, b ≠ x → hp.get? b = some o → h'.get? b = some o) → hp.objs.size ≤ dx → dx ≠ x →
      h'.get? x = some { PX.excO C t1 with dict := some dx } → h'.Ns1 dx (fun y => if y = name then some v else none) → R (.ok (.ret .none)) ⟨h', g, d, tk', os⟩) :
    codeAny (model prog w) A (.call (.builtin "object.__setattr__") ⟨[.ref x, .str name tk, v], []⟩) R ⟨hp, g, d, t, os⟩ := by
  obtain ⟨cd, hc, hd'⟩ := any_some hh
  have lt := Heap.lt_size at_
  refine osa_openX (od := none) (s := ⟨hp, g, d, t, os⟩) SF kin ⟨at_, rfl, rfl, trivial⟩ ov no fun b => ?_
  refine wpAny_bind (wpAny_pure (wpAny_bind (instanceDict_exc (s := ⟨hp, g, d, t, os⟩) (c2 := .none) at_ (looks_clsIn kin hc) hd' ?_)))
  show wpAny _ _ (storeInDict hp.objs.size (.str name tk) name v) _ _ _
  refine HandSPX.store_in_new ?_ fun h' tk' hn hs => ?_
  · exact ⟨_, #[], _, (Heap.get?_update_ne _ _ _ _ (Nat.ne_of_gt lt)).trans (Heap.get?_push_at rfl rfl), rfl, fun e he => absurd he (by simp), fun _ => rfl⟩
  · refine z h' tk' hp.objs.size (fun b o nb e => ?_) (Nat.le_refl _) (Nat.ne_of_gt lt) ?_ hn
    · rw [hs.2 b (Nat.ne_of_lt (Heap.lt_size e)), Heap.get?_update_ne _ _ _ _ nb]
      exact Heap.get?_push_of_some _ e
    · rw [hs.2 x (Nat.ne_of_lt lt)]
      exact Heap.get?_update_self _ (Heap.get?_push_of_some _ at_) rfl
/-- a further field -/
theorem osa_next (SF : StoreFacts B bmB "object.__setattr__" "object") {name : Str} {tk : Tok} {v : Value} {x C t1 dx : Addr} {m0 : Str → Option Value} {nl : List Str} (kin : K.In hp)
    (at_ : hp.get? x = some { PX.excO C t1 with dict := some dx }) (ns : hp.Ns1 dx m0) (wi : Within m0 nl) (few : nl.length ≤ 1000)
    (ov : excOver K C bmB = true) (no : takerIn K C name = some none) (hh : hasDictIn K C = true)
    (z : ∀ h' tk', (∀ b o, b ≠ dx → hp.get? b = some o → h'.get? b = some o) → h'.Ns1 dx (fun y => if y = name then some v else m0 y) → R (.ok (.ret .none)) ⟨h', g, d, tk', os⟩) :
    codeAny (model prog w) A (.call (.builtin "object.__setattr__") ⟨[.ref x, .str name tk, v], []⟩) R ⟨hp, g, d, t, os⟩ := by
  obtain ⟨cd, hc, hd'⟩ := any_some hh
  obtain ⟨oD, _, _, gD, _, _⟩ := ns.count wi
  refine osa_openX (od := some oD) (s := ⟨hp, g, d, t, os⟩) SF kin ⟨at_, rfl, rfl, gD⟩ ov no fun b => ?_
  refine wpAny_bind (wpAny_pure (wpAny_bind (wpAny_bind (wpAny_loadPart at_ (wpAny_bind ((looks_clsIn kin hc).here ?_))))))
  rw [hd']
  refine wpAny_pure (a := some dx) ?_
  exact OEX.store_in_old ns wi few fun h' tk' hn hs => z h' tk' (fun b o nb e => (hs.2 b nb).trans e) hn
end
end Xg
end PySem

namespace Xl
open PySem PySem.Spec PyProof.Rows L2 Gy
/-- what the written part says of an own exception class at C -/
structure XCl (K : PySem.W.Frag) (C : Addr) : Prop where
  base : ∃ B newId initId bmB, ExcBaseFacts B newId initId bmB ∧ StoreFacts B bmB "object.__setattr__" "object" ∧ PySem.W.excInitIn K C bmB newId = true ∧ PySem.W.excOver K C bmB = true
  sa : PySem.W.findIn K (.ref C) "__setattr__" = some (some (.builtin "object.__setattr__"))
  ga : PySem.W.findIn K (.ref C) "__getattribute__" = some (some (.builtin "BaseException.__getattribute__"))
  gg : PySem.W.findIn K (.ref C) "__getattr__" = some none
  ca : PySem.W.findIn K (.ref C) "__class__" = some (some (.builtin "object.__class__"))
  ex : PySem.W.subIn K (.ref C) (.type "BaseException") = some true
  ob : PySem.W.mroIn K C (.type "object") = some true
  hd : PySem.W.hasDictIn K C = true
  kp : PySem.W.keepIn K (.ref C) = true
/-- its __init__ stands at fI -/
structure XIn (K : PySem.W.Frag) (C fI : Addr) : Prop extends XCl K C where
  ini : PySem.W.findIn K (.ref C) "__init__" = some (some (.ref fI))
  tf : PySem.W.typeIn K (.ref fI) = some (.type "function")
section
variable {X : Cx} {pins : List (Addr × Obj)} {σ : L2.St} {H : Hp} {s : Shared} {a C dx : Addr} {f : Str} {y : V} {u : Value} {fs : List (Str × V)} {Q : Unit → Shared → Prop} {E : Value → Shared → Prop} {A : Around}
theorem set_new (T : XCl X.K C) (I : Inv X pins σ H s) (e : H a = some (exo a C none)) (no : PySem.W.findIn X.K (.ref C) f = some none) (ry : RelV y u)
    (z : ∀ dx s', H dx = none → dx ≠ a → Inv X pins σ (upd (upd H dx (exd dx [(f, y)])) a (exo a C (some dx))) s' → Q () s') :
    wpAny (model X.prog X.w) A (setAttr (.ref a) f u) Q E s := by
  obtain ⟨B, nI, iI, bmB, _, SF, _, ov⟩ := T.base
  obtain ⟨t1, at_⟩ := exo_at I.hok e
  obtain ⟨hp, g, d, t, os⟩ := s
  have tk : PySem.W.takerIn X.K C f = some none := by
    unfold PySem.W.takerIn
    rw [no]
    rfl
  refine PySem.W.set_plain I.kIn (od := none) ⟨at_, rfl, rfl, trivial⟩ T.sa ?_
  refine PySem.Xg.osa_first SF I.kIn at_ ov tk T.hd ?_
  intro h' tk' dx keep big ne atX ns
  have free : H dx = none := I.hok.fresh big
  have old : ∀ {b o}, hp.get? b = some o → b ≠ dx := fun q => Nat.ne_of_lt (Nat.lt_of_lt_of_le (Heap.lt_size q) big)
  have noA : ∀ {b}, H b = none → b ≠ a := fun {b} n y => by
    rw [y, e] at n
    cases n
  have other : ∀ {b o}, H b = some o → o ≠ exo a C none → upd (upd H dx (exd dx [(f, y)])) a (exo a C (some dx)) b = some o := by
    intro b o q ne'
    have nb : b ≠ a := fun y => by
      rw [y, e] at q
      exact ne' (Option.some.inj q).symm
    rw [upd_ne nb, upd_ne (ne_of_none q free)]
    exact q
  have U : Un X.fs [] H (upd (upd H dx (exd dx [(f, y)])) a (exo a C (some dx))) hp h' := by
    refine ⟨fun b o q n _ _ => keep b o (noA n) q, fun b o q n _ _ => ⟨o.slots, keep b o (noA n) q⟩, fun b o q n _ => ?_, fun b o q _ => ?_, fun b xs q => ?_, fun b o v q => ?_, fun b ps q => ⟨#[], ?_⟩⟩
    · rw [upd_ne (noA n), upd_ne (old q)]
      exact n
    · by_cases nb : b = a
      · exact ⟨_, by rw [nb]; exact atX⟩
      · exact ⟨o, keep b o nb q⟩
    · exact other q (fun y => exo_tup y.symm)
    · exact other q (fun y => exo_frz y.symm)
    · rw [other q (fun y => exo_tbl y.symm)]
      simp
  refine z dx _ free ne (I.un (t' := tk') U ?_)
  intro b o q
  by_cases nb : b = a
  · subst nb
    rw [upd_same] at q
    cases q
    exact exo_ok atX
  · rw [upd_ne nb] at q
    by_cases nd : b = dx
    · subst nd
      rw [upd_same] at q
      cases q
      exact exd_ok ns (relO_put (fs := []) ry fun _ => True.intro)
    · rw [upd_ne nd] at q
      refine (I.hok b o q).stay (fun c v hc y => keep c v ?_ y) (fun c hc => other hc (fun y => exo_own y.symm)) (fun c xs hc => other hc (fun y => exo_tup y.symm))
      rcases hc with hc | hc
      · rw [hc]
        exact nb
      · exact at_ne e hc exo_own
theorem set_more (T : XCl X.K C) (I : Inv X pins σ H s) (e : H a = some (exo a C (some dx))) (ed : H dx = some (exd dx fs)) (few : fs.length ≤ 900) (no : PySem.W.findIn X.K (.ref C) f = some none) (ry : RelV y u)
    (z : ∀ s', Inv X pins σ (upd H dx (exd dx ((f, y) :: fs))) s' → Q () s') : wpAny (model X.prog X.w) A (setAttr (.ref a) f u) Q E s := by
  obtain ⟨B, nI, iI, bmB, _, SF, _, ov⟩ := T.base
  obtain ⟨t1, at_⟩ := exo_at I.hok e
  obtain ⟨mA, ns, rel⟩ := exd_at I.hok ed
  have wi := within_of rel
  obtain ⟨hp, g, d, t, os⟩ := s
  obtain ⟨oD, _, _, gD, _, _⟩ := ns.count wi
  have tk : PySem.W.takerIn X.K C f = some none := by
    unfold PySem.W.takerIn
    rw [no]
    rfl
  refine PySem.W.set_plain I.kIn (od := some oD) ⟨at_, rfl, rfl, gD⟩ T.sa ?_
  refine PySem.Xg.osa_next SF I.kIn at_ ns wi (by rw [List.length_map]; omega) ov tk T.hd ?_
  intro h' tk' keep hn
  have there : ∃ o, h'.get? dx = some o := by
    obtain ⟨o, _, _, q, _⟩ := hn
    exact ⟨o, q⟩
  exact z _ (I.write (t' := tk') (x := dx) (e := dx) (o := exd dx ((f, y) :: fs)) (by rw [ed]; trivial) (.inl rfl) keep there (exd_ok hn (relO_put ry rel)))
end
/-! ### readings and rules -/
/-- self.f = e in such an __init__ -/
def tXs (K : PySem.W.Frag) (f : Str) (to te : TE) : TS := fun D σ H => te σ H fun y H1 => to σ H1 fun x H2 => ∃ a C : Addr, x = .ref a ∧ XCl K C ∧ PySem.W.findIn K (.ref C) f = some none ∧
  ((H2 a = some (exo a C none) ∧ ∀ dx, H2 dx = none → dx ≠ a → D.nx σ (upd (upd H2 dx (exd dx [(f, y)])) a (exo a C (some dx)))) ∨
    ∃ (dx : Addr) (fs : List (Str × V)), H2 a = some (exo a C (some dx)) ∧ H2 dx = some (exd dx fs) ∧ fs.length ≤ 900 ∧ D.nx σ (upd H2 dx (exd dx ((f, y) :: fs))))
/-- C(..): the object made, then __init__ -/
def tXm (C : Addr) (sp : Sp) (gV : List V → List V → List V) (t tk : TA) : TE := fun σ H Q => t σ H fun vs H0 => tk σ H0 fun zs H1 => vs.length ≤ 1000 ∧ ∀ a, H1 a = none →
  sp (.ref a :: gV vs zs) (upd H1 a (exo a C none)) (fun v H2 => v = .non ∧ Q (.ref a) H2) (fun _ _ _ => False)
section
variable {X : Cx} {o e : Expr} {es : List Expr} {kws : List Keyword} {to te : TE} {t tk : TA} {f : Str} {p p' pos : Pos}
theorem ps_xs (ho : PE X o to) (he : PE X e te) (hs : swapsWith e (some (.Attribute o f p')) pos.line X.env = pure false := by rfl) : PS X (.Assign [.Attribute o f p'] e pos) (tXs X.K f to te) := by
  constructor
  intro pins s σ H D I h
  refine plainObj_wpAny_Assign_Attribute (thn (he.run pins s σ H _ I h) ?_) hs
  rintro v s1 ⟨y, H1, I1, r1, q1⟩
  refine thn (ho.run pins s1 σ H1 _ I1 q1) ?_
  rintro u s2 ⟨x, H2, I2, r2, a, C, rfl, T, no, q⟩
  cases r2
  rcases q with ⟨ea, q⟩ | ⟨dx, fs, ea, ed, few, q⟩
  · exact set_new T I2 ea no r1 fun dx s' n ne J => ⟨σ, _, J, q dx n ne⟩
  · exact set_more T I2 ea ed few no r1 fun s' J => ⟨σ, _, J, q⟩
/-- how positional values and keywords come to __init__'s parameters -/
structure XB (K : PySem.W.Frag) (fd : FuncData) (ps ks : List Str) (g : List Value → List Value → List Value) (gV : List V → List V → List V) : Prop where
  to : ∀ (s : Shared) (b : Value) (us ws : List Value), K.In s.heap → (b :: g us ws).length = ps.length → BindsTo s fd ⟨b :: us, ks.zip ws⟩ (ps.zip (b :: g us ws))
  rel : ∀ {vs : List V} {us : List Value} {zs : List V} {ws : List Value}, Vals vs us → Vals zs ws → Vals (gV vs zs) (g us ws)
variable {CX : CXT} {C fI : Addr} {k : Nat} {fd : FuncData} {ps ks : List Str} {sp : Sp} {g : List Value → List Value → List Value} {gV : List V → List V → List V} {x : Str}
theorem run_x {pins : List (Addr × Obj)} {σ : L2.St} {H : Hp} {s : Shared} {Q : VK} {us ws : List Value} {vs zs : List V} (T : XIn X.K C fI) (F : FnOk X.prog X.w X.K X.mg X.base CX k fI fd ps sp) (hr : Room (k + 1) X.A)
    (hb : XB X.K fd ps ks g gV) (hx : Passes CX X (fun _ _ _ => False)) (I : Inv X pins σ H s) (r : Vals vs us) (rz : Vals zs ws) (len : vs.length ≤ 1000)
    (h : ∀ a, H a = none → sp (.ref a :: gV vs zs) (upd H a (exo a C none)) (fun v H2 => v = .non ∧ Q (.ref a) H2) (fun _ _ _ => False)) :
    wpAny (model X.prog X.w) X.A (call (.ref C) us (ks.zip ws)) (EP X pins σ Q) X.xe s := by
  obtain ⟨B, nI, iI, bmB, BF, _, ii, _⟩ := T.base
  obtain ⟨nm, N', qn, bs, bm, hdct, sn, sub, ab, col, dd, k0, k1, k2, k3, k5, cl, hT⟩ := PySem.W.excInit_of I.kIn ii
  obtain ⟨hp, g', dr, tk', os⟩ := s
  have big : hp.objs.size ≤ hp.objs.size + 1 := Nat.le_succ _
  have hq := h (hp.objs.size + 1) (I.hok.fresh big)
  have keep : ∀ b o, hp.get? b = some o → ((hp.push (PySem.W.kdv_tup us)).push (PySem.PX.excO C hp.objs.size)).get? b = some o := fun b o e =>
    Heap.get?_push_of_some _ (Heap.get?_push_of_some _ e)
  have new : ((hp.push (PySem.W.kdv_tup us)).push (PySem.PX.excO C hp.objs.size)).get? (hp.objs.size + 1) = some (PySem.PX.excO C hp.objs.size) := by heap_get
  have I2 := I.laid (t' := tk') (a := hp.objs.size + 1) (o := exo (hp.objs.size + 1) C none) keep big (exo_ok new)
  have r2 : Vals (V.ref (hp.objs.size + 1) :: gV vs zs) (Value.ref (hp.objs.size + 1) :: g us ws) := .cons rfl (hb.rel r rz)
  have bl := hb.to ⟨_, g', dr, tk', os⟩ (Value.ref (hp.objs.size + 1)) us ws I2.kIn (by rw [← r2.length]; exact F.len _ _ _ _ hq)
  refine wpAny_call (PySem.Xg.kw_call BF hT cl (PySem.W.looks_findIn I.kIn T.ini) (fun self => PySem.W.bind_fn I.kIn self T.tf) ?_ (codeAny_mono (F.run _ X.stack _ _ _ _ _ _ _ (hr.make C us (ks.zip ws)) (I2.env0.make C us (ks.zip ws)) bl r2 hq) ?_))
  · rw [← r.length, sizeLine_eq]
    omega
  · rintro (er | (_ | _ | _ | u)) s' z
    · exact hx pins σ _ _ er s' I2 z
    · exact z.elim
    · exact z.elim
    · exact z.elim
    · obtain ⟨v, H', I3, rv, ev, q3⟩ := I2.after z
      subst ev
      exact ⟨rv, V.ref (hp.objs.size + 1), H', I3, rfl, q3⟩
theorem pe_xm (T : XIn X.K C fI) (F : FnOk X.prog X.w X.K X.mg X.base CX k fI fd ps sp) (hr : Room (k + 1) X.A) (hg : Gl X x) (hm : X.mg x = some (.ref C)) (hb : XB X.K fd ps [] g gV) (hx : Passes CX X (fun _ _ _ => False))
    (ha : PA X (e :: es) t) (hdb : (x == ("__debug__" : Str)) = false := by decide) (he : starEach (e :: es) X.env = (false, eval e X.env) :: starEach es X.env := by rfl)
    (hpl : (backTo pos (starEach es X.env)).any (·.1) = false := by rfl) : PE X (.Call (.Name x p) (e :: es) [] pos) (tXm C sp gV t tNil) := by
  constructor
  intro pins s σ H Q I h
  refine wpAny_Call_Name_kw (ld_glob I hg hm ?_ hdb)
  refine PySem.W.callWith_K (h₀ := X.base) I.ok.mod.kin T.kp (thn (ha.run pos pins s σ H _ I h) ?_) he hpl
  rintro us s1 ⟨vs, H1, I1, r, q⟩
  obtain ⟨len, q⟩ := q
  exact ⟨I1.kIn, run_x (ks := []) (ws := []) T F hr hb hx I1 r .nil len q⟩
theorem pe_xm0 (T : XIn X.K C fI) (F : FnOk X.prog X.w X.K X.mg X.base CX k fI fd ps sp) (hr : Room (k + 1) X.A) (hg : Gl X x) (hm : X.mg x = some (.ref C)) (hb : XB X.K fd ps [] g gV) (hx : Passes CX X (fun _ _ _ => False))
    (hdb : (x == ("__debug__" : Str)) = false := by decide) : PE X (.Call (.Name x p) [] [] pos) (tXm C sp gV tNil tNil) := by
  constructor
  intro pins s σ H Q I h
  obtain ⟨len, q⟩ := h
  refine wpAny_Call_Name_kw (ld_glob I hg hm ?_ hdb)
  exact PySem.W.callWith_K0 I.kIn T.kp (run_x (us := []) (ks := []) (ws := []) T F hr hb hx I .nil .nil len q)
theorem pe_xk (T : XIn X.K C fI) (F : FnOk X.prog X.w X.K X.mg X.base CX k fI fd ps sp) (hr : Room (k + 1) X.A) (hg : Gl X x) (hm : X.mg x = some (.ref C)) (hb : XB X.K fd ps ks g gV) (hx : Passes CX X (fun _ _ _ => False))
    (hkw : PK X kws tk) (hall : (backToKw pos (keywordEach kws X.env)).all (·.1.isSome) = true := by rfl) (hks : (backToKw pos (keywordEach kws X.env)).filterMap (·.1) = ks := by rfl)
    (hdb : (x == ("__debug__" : Str)) = false := by decide)
    (hpl : ((backTo pos (starEach [] X.env)).any (·.1) || (backToKw pos (keywordEach kws X.env)).any (·.1.isNone)) = false := by rfl) :
    PE X (.Call (.Name x p) [] kws pos) (tXm C sp gV tNil tk) := by
  constructor
  intro pins s σ H Q I h
  refine wpAny_Call_Name_kw (ld_glob I hg hm ?_ hdb)
  refine PySem.W.callWith_KW0 (h₀ := X.base) I.ok.mod.kin T.kp hall (thn (hkw.run pos pins s σ H _ I h) ?_) hpl
  rintro ws s2 ⟨zs, H2, I2, rz, len, q2⟩
  rw [hks]
  exact ⟨I2.kIn, run_x (us := []) T F hr hb hx I2 .nil rz len q2⟩
/-- an exception of the class C stands at a, its fields fs -/
def XAt (K : PySem.W.Frag) (H : Hp) (a C : Addr) (fs : List (Str × V)) : Prop := XCl K C ∧ ((fs = [] ∧ H a = some (exo a C none)) ∨ ∃ d, H a = some (exo a C (some d)) ∧ H d = some (exd d fs))
/-- e.f -/
def tXf1 (K : PySem.W.Frag) (f : Str) (te : TE) : TE := fun σ H Q => te σ H fun x H1 => ∃ (a C : Addr) (fs : List (Str × V)) (v : V), x = .ref a ∧ XAt K H1 a C fs ∧ PySem.W.findIn K (.ref C) f = some none ∧ fs.lookup f = some v ∧ Q v H1
theorem pe_xf1 {n : Str} (he : PE X e te) (hb : attributeBase e n X.env (eval e X.env) = eval e X.env := by rfl) : PE X (.Attribute e n pos) (tXf1 X.K n te) := by
  constructor
  intro pins s σ H Q I h
  refine attr_of hb (thn (he.run pins s σ H _ I h) ?_)
  rintro u s1 ⟨x, H1, I1, rx, a, C, fs, v, rfl, ⟨T, at_⟩, no, l, q⟩
  cases rx
  rcases at_ with ⟨rfl, _⟩ | ⟨d, ea, ed⟩
  · cases l
  · obtain ⟨t1, ga⟩ := exo_at I1.hok ea
    obtain ⟨mA, ns, rel⟩ := exd_at I1.hok ed
    obtain ⟨od, go, hl⟩ := lookIn_ns ns
    obtain ⟨u, hu, ru⟩ := RelO.some_of (v := v) (o := mA n) (by rw [← l]; exact rel n)
    exact PySem.PX.exc_get I1.kIn (od := some od) ⟨ga, rfl, rfl, go⟩ T.ga T.gg T.ex (PySem.W.findObj_own T.hd no rfl (by rw [hl, hu])) (handed_of ru) ⟨v, H1, I1.tok _, ru, q⟩
/-- isinstance(e, c) -/
def rIsX (K : PySem.W.Frag) : List V → Hp → VK → Prop := fun xs H Q => ∃ (a C : Addr) (fs : List (Str × V)) (c : V) (cv : Value) (b : Bool), xs = [.ref a, c] ∧ XAt K H a C fs ∧ ClsV c cv ∧ PySem.W.kitOne K (.ref C) cv = some b ∧ Q (.bl b) H
theorem call_isX (cg : PySem.W.specialIn X.K (.builtin "object.__class__") "__get__" = some (some (.builtin "getset_descriptor.__get__"))) (ct : PySem.W.takesIn X.K (.builtin "object.__class__") = some true) :
    CallR X (.builtin "isinstance") (rIsX X.K) := by
  intro pins s σ H xs us Q I r h
  obtain ⟨a, C, fs, c, cv, b, rfl, ⟨T, at_⟩, hc, e, q⟩ := h
  obtain ⟨u1, u2, rfl, r1, r2⟩ := vals2 r
  cases r1
  have e2 := hc.eq r2
  subst e2
  have cls : (PySem.W.clsIn X.K C).isSome = true := by
    obtain ⟨cd, z, _⟩ := PySem.W.any_some T.hd
    rw [z]
    rfl
  have inst : ∃ ox od, PySem.W.InstAt s.heap a ox C od := by
    rcases at_ with ⟨_, ea⟩ | ⟨d, ea, ed⟩
    · obtain ⟨t1, ga⟩ := exo_at I.hok ea
      exact ⟨_, none, ga, rfl, rfl, trivial⟩
    · obtain ⟨t1, ga⟩ := exo_at I.hok ea
      obtain ⟨mA, ns, rel⟩ := exd_at I.hok ed
      obtain ⟨od, go, hl⟩ := lookIn_ns ns
      exact ⟨_, some od, ga, rfl, rfl, go⟩
  obtain ⟨ox, od, J⟩ := inst
  exact PySem.W.kia_one (PySem.W.kitx_exc cls T.ga T.gg T.ex T.ca cg ct T.ob) I.kIn J e (fun z => nomatch z) fun tk => ⟨.bl b, H, I.tok tk, rfl, q⟩
/-- C(e, ..) of a class without an __init__ of its own -/
def tXb (C : Addr) (t : TA) : TE := fun σ H Q => t σ H fun vs H1 => vs.length ≤ 1000 ∧ ∀ a, H1 a = none → Q (.ref a) (upd H1 a (exo a C none))
theorem pe_xb (T : XCl X.K C) (hi : ∃ B newId initId bmB, ExcBaseFacts B newId initId bmB ∧ PySem.W.excInitIn X.K C bmB newId = true ∧ PySem.W.findIn X.K (.ref C) "__init__" = some (some (.builtin initId)))
    (hg : Gl X x) (hm : X.mg x = some (.ref C)) (ha : PA X (e :: es) t) (hdb : (x == ("__debug__" : Str)) = false := by decide)
    (he : starEach (e :: es) X.env = (false, eval e X.env) :: starEach es X.env := by rfl) (hpl : (backTo pos (starEach es X.env)).any (·.1) = false := by rfl) :
    PE X (.Call (.Name x p) (e :: es) [] pos) (tXb C t) := by
  constructor
  intro pins s σ H Q I h
  obtain ⟨B, nI, iI, bmB, BF, ii, fi⟩ := hi
  refine wpAny_Call_Name_kw (ld_glob I hg hm ?_ hdb)
  refine PySem.W.callWith_K (h₀ := X.base) I.ok.mod.kin T.kp (thn (ha.run pos pins s σ H _ I h) ?_) he hpl
  rintro us s1 ⟨vs, H1, I1, r, len, q⟩
  refine ⟨I1.kIn, ?_⟩
  obtain ⟨nm, N', qn, bs, bm, hdct, sn, sub, ab, col, dd, k0, k1, k2, k3, k5, cl, hT⟩ := PySem.W.excInit_of I1.kIn ii
  have lk := PySem.W.looks_findIn (M := model X.prog X.w) I1.kIn fi
  obtain ⟨hp, g', dr, tk', os⟩ := s1
  show wpAny _ _ (call (.ref C) us) _ _ _
  refine PySem.W.call_B BF hT cl lk (by rw [← r.length, sizeLine_eq]; omega) fun h' keep new _ => ?_
  exact ⟨V.ref (hp.objs.size + 1), _, I1.laid (t' := tk') keep (Nat.le_succ _) (exo_ok new), rfl, q _ (I1.hok.fresh (Nat.le_succ _))⟩
end
end Xl

namespace Gy
open PySem PySem.Spec PyProof.Rows L2
/-- data, or a dict without entries, or one whose only key is the text k and whose value is an int -/
inductive Dz (K : PySem.W.Frag) (H : Hp) : V → PyData → Prop
  | dat {v : V} {d : PyData} (h : Dp K H v d) (n : d.hasDict = false) : Dz K H v d
  | d0 {a : Addr} (h : H a = some (.dK [])) : Dz K H (.ref a) (.dict [])
  | d1 {a : Addr} {k : Str} {i : Int} (h : H a = some (.dK [(Sum.inr k, .int i)])) : Dz K H (.ref a) (.dict [(.str k, .int i)])
theorem Dz.reads {X : Cx} {pins : List (Addr × Obj)} {σ : L2.St} {H : Hp} {s : Shared} (I : Inv X pins σ H s) {v : V} {d : PyData} {u : Value} (h : Dz X.K H v d) (r : RelV v u) :
    ∃ as, Reads s.heap u d as ∧ (d.hasDict = true → sysModules ∉ as) := by
  cases h with
  | dat h n =>
    obtain ⟨as, z⟩ := Dp.reads I d v u h r
    exact ⟨as, z, fun q => by rw [n] at q; cases q⟩
  | @d0 a h =>
    cases r
    obtain ⟨_, ns, vs, kv, o, es, ep, g1, ex, g2, ks, ps, _⟩ := (show ObjOk X.prog X.w H s.heap a (.dK []) from I.hok a _ h)
    cases kv
    have e : es.toList = [] := by
      generalize es.toList = l at ps
      cases ps
      rfl
    refine ⟨_, .dict g1 ex.1 g2 (as := []) (bs := []) (by rw [e]; exact .nil) (by rw [e]; exact .nil), fun _ q => ?_⟩
    rw [List.append_nil, List.mem_singleton] at q
    rw [← q] at ns
    cases ns
  | @d1 a k i h =>
    cases r
    obtain ⟨_, ns, vs, kv, o, es, ep, g1, ex, g2, ks, ps, _⟩ := (show ObjOk X.prog X.w H s.heap a (.dK [(Sum.inr k, .int i)]) from I.hok a _ h)
    obtain ⟨t1, t2, e1, e2⟩ : ∃ t1 t2, es.toList.map (·.key) = [.str k t1] ∧ es.toList.map (·.val) = [.int i t2] := by
      generalize es.toList = l at ps
      cases kv with
      | cons hk hr =>
        cases hr
        obtain ⟨h1, h2⟩ := hk
        cases ps with
        | cons p1 p2 p3 =>
          cases p3
          rw [← h1] at p1
          rcases keyIs_shape (show keyIs (Sum.inr k) _ = true from p1) with ⟨j, t, q, _⟩ | ⟨x, t, q, q2⟩
          · cases q
          · cases q
            obtain ⟨t2, h2⟩ := h2
            refine ⟨t, t2, ?_, ?_⟩
            · rw [List.map_singleton, q2]
            · rw [List.map_singleton, p2, h2]
    refine ⟨_, .dict g1 ex.1 g2 (as := [] ++ []) (bs := [] ++ []) (by rw [e1]; exact .cons (.str k t1) .nil) (by rw [e2]; exact .cons (.int i t2) .nil), fun _ q => ?_⟩
    have q' : sysModules ∈ [a] := q
    rw [List.mem_singleton] at q'
    rw [← q'] at ns
    cases ns
/-- each of them shown -/
theorem shows_all {X : Cx} {pins : List (Addr × Obj)} {σ : L2.St} {H : Hp} {s : Shared} (I : Inv X pins σ H s) : ∀ {vs : List V} {ds : List PyData} {us : List Value}, Paired (Dz X.K H) vs ds → Vals vs us →
    PyData.showableAll ds = true → (∀ t ∈ PyData.shownAll ds, t.length ≤ sizeLine) →
    ∃ as bs, ReadsAll s.heap us ds as ∧ ReadAtMost s.heap (PyData.depthAll ds) bs ∧ ReprAllK X.prog X.w bs s.heap (PyData.depthAll ds) us (PyData.shownAll ds)
  | _, _, _, .nil, .nil, _, _ => ⟨[], [], .nil, (fun _ h => nomatch h), .nil⟩
  | _, _, _, .cons (b := d) (l₂ := ds) h hs, .cons r rs, sh, len => by
    have sh2 : d.showable = true ∧ PyData.showableAll ds = true := by simpa only [PyData.showableAll, Bool.and_eq_true] using sh
    obtain ⟨as, rd, no⟩ := h.reads I r
    obtain ⟨b1, m1, k1⟩ := ReprK.of_reads (prog := X.prog) (w := X.w) rd sh2.1 no (len _ List.mem_cons_self)
    obtain ⟨as2, b2, rd2, m2, k2⟩ := shows_all I hs rs sh2.2 fun t ht => len t (List.mem_cons_of_mem _ ht)
    have l1 : d.depth ≤ PyData.depthAll (d :: ds) := Nat.le_max_left _ _
    have l2 : PyData.depthAll ds ≤ PyData.depthAll (d :: ds) := Nat.le_max_right _ _
    refine ⟨as ++ as2, b1 ++ b2, .cons rd rd2, (m1.mono l1).append (m2.mono l2), ?_⟩
    exact .cons ((k1.more fun b hb => List.mem_append_left _ hb).level_le l1) (k2.more_le (fun b hb => List.mem_append_right _ hb) l2)
/-- repr of a list of such values -/
def rRepr (K : PySem.W.Frag) : List V → Hp → VK → Prop := fun xs H Q => ∃ l vs ds, xs = [.ref l] ∧ SqL K H l vs ∧ vs ≠ [] ∧ Paired (Dz K H) vs ds ∧ PyData.showableAll ds = true ∧ PyData.depthAll ds ≤ 60 ∧
  (listText (PyData.shownAll ds)).length ≤ sizeLine ∧ Q (.str (listText (PyData.shownAll ds))) H
theorem repr_dz {X : Cx} (hg : X.A.guards = some []) (hu : X.A.units + 70 < cLine) : CallR X (.builtin "repr") (rRepr X.K) := by
  intro pins s σ H xs us Q I r h
  obtain ⟨l, vs, ds, rfl, sq, nn, dz, sh, dp, len, q⟩ := h
  obtain ⟨u, rfl, ru⟩ := vals1 r
  cases ru
  obtain ⟨its, rv, ⟨o, n, g1, g2, _, g3⟩, _⟩ := I.list sq
  obtain ⟨as, bs, rd, at_, sw⟩ := shows_all I dz rv sh fun t ht => Nat.le_trans (listText_mem_le ht) len
  have out : l ∉ bs := not_mem_of_deeper (.list g1 g2 g3 rd) (by simp only [PyData.depth]; omega) at_
  match its, nn, rv, g3, rd, sw with
  | [], nn, rv, _, _, _ =>
    cases rv
    exact absurd rfl nn
  | x :: rest, _, _, g3, _, sw =>
    refine call_repr_slot (T := "list") (idr := "list.__repr__") (by omega) ⟨o, g1, g2⟩ F.slot_list_repr.toG ?_
    refine call_list_reprK g1 g2 g3 out (by simpa using sw.length_eq) (fun i y e => sw.item i y (by simpa using e)) (g := []) hg (fun b _ => Clear.nil b) (d := PyData.depthAll ds) ?_ (fun _ _ e => e) (fun h' u tk hk => ?_) len
    · show X.A.units + 1 + (PyData.depthAll ds + 1) < cLine
      omega
    · exact ⟨_, _, rfl, .str _, H, I.kept hk, ⟨u, rfl⟩, q⟩
end Gy

/-! Own exceptions over any base raised and caught: one field; several clauses with a name. -/
namespace Xl
open PySem PySem.Spec PyProof.Rows L2 Gy
/-- an __init__ of one field f -/
def spI1 (C : Addr) (f : Str) : Sp := fun vs H Q _ => ∃ (a : Addr) (v : V), vs = [.ref a, v] ∧ H a = some (exo a C none) ∧ ∀ dx, H dx = none → dx ≠ a → Q .non (upd (upd H dx (exd dx [(f, v)])) a (exo a C (some dx)))
theorem del_made {H : Hp} {a dx C : Addr} {f : Str} {v : V} (n : H a = none) (ne : dx ≠ a) :
    upd (del (upd (upd (upd H a (exo a C none)) dx (exd dx [(f, v)])) a (exo a C (some dx))) a) dx (.xd [(f, v)]) = upd H dx (.xd [(f, v)]) := by
  funext b
  by_cases h1 : b = dx
  · rw [h1, upd_same, upd_same]
  · rw [upd_ne h1, upd_ne h1]
    by_cases h2 : b = a
    · rw [h2, del_same, n]
    · rw [del_ne h2, upd_ne h2, upd_ne h1, upd_ne h2]
section
variable {X : Cx} {C fI : Addr} {fd : FuncData} {f x : Str} {e : Expr} {te : TE} {p pos : Pos} {CX' : CXT}
/-- C(e), to be raised -/
def tMk1 (C : Addr) (f : Str) (t : TA) : L2.St → Hp → XK → Prop := fun σ H Q => t σ H fun vs H1 => ∃ v, vs = [v] ∧ ∀ d, H1 d = none → Q (.ref C) (some d) (upd H1 d (.xd [(f, v)]))
theorem pmk_x1 {t : TA} (T : XIn X.K C fI) (ty : PySem.W.typeIn X.K (.ref C) = some (.type "type")) (F : FnOk X.prog X.w X.K X.mg X.base CX0 1 fI fd ["self", f] (spI1 C f)) (hr : Room 2 X.A)
    (hb : XB X.K fd ["self", f] [] (fun us _ => us) (fun vs _ => vs)) (hg : Gl X x) (hm : X.mg x = some (.ref C)) (ha : PA X [e] t)
    (hdb : (x == ("__debug__" : Str)) = false := by decide) (hst : starEach [e] X.env = (false, eval e X.env) :: starEach [] X.env := by rfl) :
    PMk X (.Call (.Name x p) [e] [] pos) (tMk1 C f t) := by
  intro pins s σ H Q I h
  refine wpAny_Call_Name_kw (ld_glob I hg hm ?_ hdb)
  refine PySem.W.callWith_K (h₀ := X.base) I.ok.mod.kin T.kp (thn (ha.run pos pins s σ H _ I h) ?_) hst rfl
  rintro us s1 ⟨vs, H1, I1, r1, v, rfl, q1⟩
  refine ⟨I1.kIn, ?_⟩
  show wpAny _ _ (call (.ref C) us) _ _ _
  obtain ⟨B, nI, iI, bmB, BF, _, ii, _⟩ := T.base
  obtain ⟨nm, N', qn, bs, bm, hdct, sn, sub, ab, col, dd, k0, k1, k2, k3, k5, cl, hT⟩ := PySem.W.excInit_of I1.kIn ii
  obtain ⟨hp, g', dr, tk', os⟩ := s1
  have big : hp.objs.size ≤ hp.objs.size + 1 := Nat.le_succ _
  have na : H1 (hp.objs.size + 1) = none := I1.hok.fresh big
  have keep : ∀ b o, hp.get? b = some o → ((hp.push (PySem.W.kdv_tup us)).push (PySem.PX.excO C hp.objs.size)).get? b = some o := fun b o e =>
    Heap.get?_push_of_some _ (Heap.get?_push_of_some _ e)
  have new : ((hp.push (PySem.W.kdv_tup us)).push (PySem.PX.excO C hp.objs.size)).get? (hp.objs.size + 1) = some (PySem.PX.excO C hp.objs.size) := by heap_get
  have I2 := I1.laid (t' := tk') (a := hp.objs.size + 1) (o := exo (hp.objs.size + 1) C none) keep big (exo_ok new)
  have r2 : Vals [V.ref (hp.objs.size + 1), v] (Value.ref (hp.objs.size + 1) :: us) := .cons rfl r1
  have hq : spI1 C f [V.ref (hp.objs.size + 1), v] (upd H1 (hp.objs.size + 1) (exo (hp.objs.size + 1) C none))
      (fun r H2 => r = .non ∧ ∃ dx, dx ≠ hp.objs.size + 1 ∧ upd H1 (hp.objs.size + 1) (exo (hp.objs.size + 1) C none) dx = none ∧
        H2 = upd (upd (upd H1 (hp.objs.size + 1) (exo (hp.objs.size + 1) C none)) dx (exd dx [(f, v)])) (hp.objs.size + 1) (exo (hp.objs.size + 1) C (some dx))) (fun _ _ _ => False) :=
    ⟨_, v, rfl, upd_same, fun dx nd ne => ⟨rfl, dx, ne, nd, rfl⟩⟩
  have bl := hb.to ⟨_, g', dr, tk', os⟩ (Value.ref (hp.objs.size + 1)) us [] I2.kIn (by rw [← r2.length]; rfl)
  refine wpAny_call (PySem.Xg.kw_call BF hT cl (PySem.W.looks_findIn I1.kIn T.ini) (fun self => PySem.W.bind_fn I1.kIn self T.tf) ?_ (codeAny_mono (F.run _ X.stack _ _ _ _ _ _ _ (hr.make C us []) (I2.env0.make C us []) bl r2 hq) ?_))
  · rw [← r1.length, sizeLine_eq]
    show 1 ≤ 16777216
    decide
  · rintro (er | (_ | _ | _ | u)) s' z
    · exact (show False from z).elim
    · exact z.elim
    · exact z.elim
    · exact z.elim
    · obtain ⟨r, H2, os2, bare2, un2, hok2, rv, er, dx, ne, nd, e2⟩ := z
      subst er
      obtain ⟨h2, g2, d2, t2, os'⟩ := s'
      subst e2
      refine ⟨rv, mk_end (raises_own T.ex ty) I1 big keep un2 hok2 os2 bare2 upd_same ((upd_ne ne).trans upd_same) ((upd_ne ne).symm.trans nd) ?_⟩
      rw [del_made na ne]
      exact q1 dx ((upd_ne ne).symm.trans nd)
/-- raise C(e) -/
theorem ps_raise1 {W : WX} {t : TA} {rp : Pos} (hc : X.calm = true) (tk : Takes X W) (T : XIn X.K C fI) (ty : PySem.W.typeIn X.K (.ref C) = some (.type "type")) (F : FnOk X.prog X.w X.K X.mg X.base CX0 1 fI fd ["self", f] (spI1 C f)) (hr : Room 2 X.A)
    (hb : XB X.K fd ["self", f] [] (fun us _ => us) (fun vs _ => vs)) (hg : Gl X x) (hm : X.mg x = some (.ref C)) (ha : PA X [e] t)
    (hdb : (x == ("__debug__" : Str)) = false := by decide) (hst : starEach [e] X.env = (false, eval e X.env) :: starEach [] X.env := by rfl) :
    PS X (.Raise (some (.Call (.Name x p) [e] [] pos)) none rp) (fun _ σ H => tMk1 C f t σ H fun cls d H' => W cls d σ H') :=
  ps_raise hc tk (pmk_x1 T ty F hr hb hg hm ha hdb hst)
end
section
variable {X : Cx}
/-- what several clauses 'except x as n' wish of an exception of the body, one after the other: slot i is n's -/
def wManyAs (K : PySem.W.Frag) (i : Nat) (Wout : WX) (D : Ends) : List (Value × (Addr → Value → Option Addr → TS)) → WX
  | [] => Wout
  | (c, ts) :: r => fun cls d σ H => ∃ b, PySem.W.exmOne K cls c = some b ∧
      (b = true → ∀ a, H a = none → ts a cls d { nx := fun σ' H' => D.nx (σ'.set i none) H', rt := D.rt, bk := fun σ' H' => D.bk (σ'.set i none) H', ct := fun σ' H' => D.ct (σ'.set i none) H' } (σ.set i (some (.ref a))) H) ∧
      (b = false → wManyAs K i Wout D r cls d σ H)
inductive HdsAs (X : Cx) (n : Str) : List ExceptHandler → List (Value × (Addr → Value → Option Addr → TS)) → Prop
  | nil : HdsAs X n [] []
  | cons {x : Str} {c : Value} {ts : Addr → Value → Option Addr → TS} {b₀ : Stmt} {suite : List Stmt} {np pos' : Pos} {hds : List ExceptHandler} {l : List (Value × (Addr → Value → Option Addr → TS))} (hc : Names X x c)
      (hsu : ∀ (a : Addr) (oe : Obj) (cls : Value) (d : Option Addr) (pn : List (Addr × Obj)), Zc cls d oe → (∃ vs, oe.data = .fields vs) → PSs (X.suite a ((a, oe) :: pn)) (b₀ :: suite) (ts a cls d)) (r : HdsAs X n hds l) :
      HdsAs X n (.ExceptHandler (some (.Name x np)) (some n) (b₀ :: suite) pos' :: hds) ((c, ts) :: l)
variable {body : List Stmt} {h₀ : ExceptHandler} {hds : List ExceptHandler} {l : List (Value × (Addr → Value → Option Addr → TS))} {n : Str} {i : Nat} {pos : Pos} {tb : WX → TS} {Wout : WX}
/-- try: body, several clauses 'except x as n' -/
theorem ps_try_manyAs (hs : X.stack = X.env :: X.outer) (hf : X.env.frame = some X.env.locals) (hN : X.N.Nodup) (hi : X.N[i]? = some n) (hln : X.env.kindOf n = some .local) (tk : Takes X Wout)
    (hb : ∀ (W : WX) (pn : List (Addr × Obj)) (xe : Value → Shared → Prop), Takes (X.tr pn xe) W → PassesOwn (model X.prog X.w) X.A X.env xe → PSs (X.tr pn xe) body (tb W))
    (hh : HdsAs X n (h₀ :: hds) l) : PS X (.Try body (h₀ :: hds) [] [] pos) (fun D σ H => tb (wManyAs X.K i Wout D l) D σ H) := by
  constructor
  intro pins s σ H D I h
  have ok := I.ok
  have fr : X.A.frames = some (X.env :: X.outer) := by
    rw [ok.frames, hs]
  refine wpAny_Try_except ?_
  have run := hb (wManyAs X.K i Wout D l) (X.pn ++ pins) (fun e s₁ => wpAny (model X.prog X.w) X.A (noteFrame e X.env) (fun _ s₂ => wpAny (model X.prog X.w) X.A (setFlight e none)
    (fun _ s₃ => wpAny (model X.prog X.w) X.A (handleBy e X.env (h₀ :: hds)) (SP X pins D) X.xe s₃) X.xe s₂) X.xe s₁) ?tk PassesOwn.looking
  case tk =>
    rintro u s' ⟨a, B, sI, pins', σ', H', cls, d, rfl, J', nb, up, sky, na, os, ag, wish⟩
    have J := J'.ofTry ok
    rw [show (X.tr (X.pn ++ pins) _).stack = X.env :: X.outer from hs] at sky
    refine Sky.land Zc.steady fr hf sky fun h3 fl3 up3 => ?_
    have J3 : Inv X pins σ' H' { s' with heap := h3 } := J.landed nb fl3.1 (up.trans up3) os ag
    obtain ⟨oe3, vs3, at3, z3, d3⟩ := fl3.there
    have out : a ∉ frs (X.env :: X.outer) := fun m => by
      obtain ⟨_, o', q', nf⟩ := fl3.2.2.1.mem m
      rw [at3] at q'
      cases q'
      exact nf _ d3
    have nL : a ≠ X.env.locals := fun z => out (List.mem_filterMap.mpr ⟨X.env, List.mem_cons_self, by rw [hf, z]⟩)
    have nF : a ∉ X.fs := fun m => by
      obtain ⟨e', he', q'⟩ := List.mem_filterMap.mp m
      exact out (List.mem_filterMap.mpr ⟨e', List.mem_cons_of_mem _ he', q'⟩)
    have S3 := J3.suite at3 d3 na nL nF
    have go : ∀ {hds' l'}, HdsAs X n hds' l' → wManyAs X.K i Wout D l' cls d σ' H' → wpAny (model X.prog X.w) X.A (handleBy (.ref a) X.env hds') (SP X pins D) X.xe { s' with heap := h3 } := by
      intro hds' l' hk
      induction hk with
      | nil =>
        intro wish
        refine wpAny_handleBy_nil ?_
        obtain ⟨k1, k2, k3, oe, vs, T, oT, ts', he, hz, hd, h1, hr⟩ := id fl3
        unfold PySem.passOn
        refine wpAny_bind (wpAny_field he hd h1 ?_)
        rw [if_neg (show ¬ ((Value.ref T == Value.none) = true) from by simp)]
        have fin : wpAny (model X.prog X.w) X.A (setFlight (.ref a) X.env.frame) (fun _ s4 => wpAny (model X.prog X.w) X.A (throw (.ref a) : Sem Flow) (SP X pins D) X.xe s4) X.xe { s' with heap := h3 } := by
          rw [hf]
          refine HandSPX.setFlight_upZ fl3 fun h4 hh4 up4 => wpAny_throw (tk _ _ ?_)
          refine ⟨a, B, sI, pins, σ', H', cls, d, rfl, J, nb, (up.trans up3).trans up4, .inr (.inr ?_), na, os, ag, wish⟩
          rw [hs]
          exact hh4
        first
          | exact wpAny_bind (wpAny_pure (wpAny_bind fin))
          | exact wpAny_bind fin
      | @cons x c ts b₀ suite np pos' hds2 l2 hc hsu r ih =>
        rintro ⟨b, hb1, yes, no⟩
        refine wpAny_handleBy_cons (codeAny_handlers_test ?_) (by intro q; cases q)
        have ty : PySem.W.Looks (model X.prog X.w) h3 (typeOf (.ref a)) cls := fun A Q E s k q => wpAny_typeOf_ref (k _ _ at3) (by rw [z3.1]; exact q)
        have look := PySem.W.exm_one (M := model X.prog X.w) J3.kIn ty hb1
        have name : ∀ {Q : Value → Shared → Prop} {E : Value → Shared → Prop}, Q c { s' with heap := h3 } → wpAny (model X.prog X.w) (X.A.mark (some (.ref a))) (eval (.Name x np) X.env) Q E { s' with heap := h3 } := by
          intro Q E q
          obtain ⟨hg, hdbg, hm | ⟨hm, hv, hnn⟩⟩ := hc
          · exact ld_glob (X := X.suite a ((a, oe3) :: (X.pn ++ pins))) S3 hg hm q hdbg
          · exact ld_blt (X := X.suite a ((a, oe3) :: (X.pn ++ pins))) S3 hg hm hv q hnn hdbg
        refine name (look.here ?_)
        cases b with
        | false =>
          show wpAny _ X.A (handleBy (.ref a) X.env hds2) _ _ _
          exact ih (no rfl)
        | true =>
          refine codeAny_handlers_suite_as ?_
          refine HandSPX.lands_againZ fl3 fun h4 fl4 up4 => ?_
          have J4 : Inv X pins σ' H' { s' with heap := h4 } := J.landed nb fl4.1 ((up.trans up3).trans up4) os ag
          obtain ⟨oe4, vs4, at4, z4, d4⟩ := fl4.there
          have S4 := J4.suite at4 d4 na nL nF
          refine store_ok (X := X.suite a ((a, oe4) :: (X.pn ++ pins))) (v := .ref a) S4 hN hi (.inl hln) rfl (fun s5 S5 => ?_) (.inr hln)
          refine wpAny_mono ((hsu a oe4 cls d (X.pn ++ pins) z4 ⟨_, d4⟩).run [] s5 _ H' _ S5 (yes rfl a na)) (fun f s6 sp => ?_) (fun _ _ z => False.elim z)
          have leave : ∀ {σ6 : L2.St} {H6 : Hp} {Q : Shared → Prop}, Inv (X.suite a ((a, oe4) :: (X.pn ++ pins))) [] σ6 H6 s6 → (∀ s7, Inv X pins (σ6.set i none) H6 s7 → Q s7) →
              wpAny (model X.prog X.w) X.A (do bindName X.env n .none; unbindBehindTheSuite X.env n pos') (fun _ s7 => Q s7) X.xe s6 := fun S6 hq => gone_ok (S6.unsuite ok) hN hi hln hq
          cases f with
          | ret u =>
            obtain ⟨v6, σ6, H6, S6, r6, q6⟩ := sp
            exact leave S6 fun s7 J7 => ⟨_, _, _, J7, r6, q6⟩
          | _ =>
            obtain ⟨σ6, H6, S6, q6⟩ := sp
            exact leave S6 fun s7 J7 => ⟨_, _, J7, q6⟩
    exact go hh wish
  refine wpAny_mono (run.run [] s σ H D (I.toTry _) h) (fun f s1 sp => ?_) (fun e s1 he => he)
  cases f with
  | next =>
    obtain ⟨σ', H', J', q⟩ := sp
    exact wpAny_execs_nil ⟨σ', H', J'.ofTry ok, q⟩
  | ret u =>
    obtain ⟨v, σ', H', J', r, q⟩ := sp
    exact ⟨v, σ', H', J'.ofTry ok, r, q⟩
  | _ =>
    obtain ⟨σ', H', J', q⟩ := sp
    exact ⟨σ', H', J'.ofTry ok, q⟩
end
end Xl

/-! In an except suite: isinstance of the caught error, whose fields stand in its dict. -/
namespace Xl
open PySem PySem.Spec PyProof.Rows L2 Gy
def rIsS (K : PySem.W.Frag) (a : Addr) (cls : Value) (d : Option Addr) : List V → Hp → VK → Prop := fun xs H Q => ∃ (D dd : Addr) (fs : List (Str × V)) (c : V) (cv : Value) (b : Bool),
  xs = [.ref a, c] ∧ cls = .ref D ∧ d = some dd ∧ H dd = some (.xd fs) ∧ XCl K D ∧ ClsV c cv ∧ PySem.W.kitOne K (.ref D) cv = some b ∧ Q (.bl b) H
theorem call_isS {X : Cx} {a : Addr} {oe : Obj} {cls : Value} {d : Option Addr} {pn : List (Addr × Obj)} (cg : PySem.W.specialIn X.K (.builtin "object.__class__") "__get__" = some (some (.builtin "getset_descriptor.__get__")))
    (ct : PySem.W.takesIn X.K (.builtin "object.__class__") = some true) (hz : Zc cls d oe) (hf : ∃ vs, oe.data = .fields vs) : CallR (X.suite a ((a, oe) :: pn)) (.builtin "isinstance") (rIsS X.K a cls d) := by
  intro pins s σ H xs us Q I r h
  obtain ⟨D, dd, fs, c, cv, b, rfl, rfl, rfl, hd, T, hc, e, q⟩ := h
  obtain ⟨u1, u2, rfl, r1, r2⟩ := vals2 r
  cases r1
  have e2 := hc.eq r2
  subst e2
  obtain ⟨ha, _⟩ := I.pin (a, oe) (List.mem_append_left _ List.mem_cons_self)
  obtain ⟨vs, hv⟩ := hf
  obtain ⟨mA, ns, _⟩ := (show ObjOk X.prog X.w H s.heap dd (.xd fs) from I.hok dd _ hd)
  obtain ⟨od, go, _⟩ := lookIn_ns ns
  have cl : (PySem.W.clsIn X.K D).isSome = true := by
    obtain ⟨cd, z, _⟩ := PySem.W.any_some T.hd
    rw [z]
    rfl
  have J : PySem.W.InstAt s.heap a oe D (some od) := by
    obtain ⟨oc, odd, oda, osl⟩ := oe
    obtain ⟨h1, h2⟩ := hz
    dsimp only at h1 h2 hv
    subst h1 h2 hv
    exact ⟨ha, rfl, rfl, go⟩
  exact PySem.W.kia_one (PySem.W.kitx_exc cl T.ga T.gg T.ex T.ca cg ct T.ob) I.kIn J e (fun z => nomatch z) fun tk => ⟨.bl b, H, I.tok tk, rfl, q⟩
end Xl

/-! Tuples that are made in the run, known to have no dict of their own: so their methods can be called. -/
namespace Xt
open PySem PySem.Spec PyProof.Rows L2
/-- a tuple that was made in the run -/
def Tz (H : Hp) (a : Addr) (xs : List V) : Prop := ∃ o : Obj, H a = some (.frz o (.tup xs)) ∧ o.cls = .type "tuple" ∧ o.dict = none
theorem Tz.sq {K : PySem.W.Frag} {H : Hp} {a : Addr} {xs : List V} (h : Tz H a xs) : SqT K H a xs := by
  obtain ⟨o, e, _⟩ := h
  exact .inl (.inr ⟨o, e⟩)
theorem Tz.same {H H' : Hp} {a : Addr} {xs : List V} (h : Tz H a xs) (s : Same H H') : Tz H' a xs := by
  obtain ⟨o, e, c⟩ := h
  exact ⟨o, s _ _ e, c⟩
theorem Tz.ty {K : PySem.W.Frag} {H : Hp} {a : Addr} {xs : List V} (h : Tz H a xs) : TyX K H (.ref a) (.type "tuple") := by
  obtain ⟨o, e, _⟩ := h
  exact .fTuple e
theorem Tz.ne {H : Hp} {a p : Addr} {xs : List V} (h : Tz H a xs) (n : H p = none) : a ≠ p := by
  obtain ⟨o, e, _⟩ := h
  exact ne_of_none e n
/-- the goal behind a new tuple -/
def NewT (xs : List V) (H : Hp) (Q : VK) : Prop := ∀ p o, H p = none → Same H (upd H p o) → Tz (upd H p o) p xs → Q (.ref p) (upd H p o)
section
variable {X : Cx} {pins : List (Addr × Obj)} {σ : L2.St} {H : Hp} {s : Shared} {Q : VK}
theorem lay_new (I : Inv X pins σ H s) {xs : List V} {us : List Value} {n : Nat} (z : xs.length ≤ sizeLine) (r : Vals xs us) (q : NewT xs H Q) :
    EP X pins σ Q (.ref s.heap.objs.size) { s with heap := s.heap.push { cls := .type "tuple", data := .seq us.toArray n } } := by
  have new : H s.heap.objs.size = none := I.hok.fresh (Nat.le_refl _)
  have got : (s.heap.push { cls := .type "tuple", data := .seq us.toArray n }).get? s.heap.objs.size = some { cls := .type "tuple", data := .seq us.toArray n } := Heap.get?_push_size _ rfl
  refine ⟨.ref s.heap.objs.size, upd H s.heap.objs.size (.frz { cls := .type "tuple", data := .seq us.toArray n } (.tup xs)), I.laid (t' := s.toks) (fun b u e => Heap.get?_push_of_some _ e) (Nat.le_refl _) ⟨got, z, us, r, _, got, rfl, n, rfl⟩, rfl, ?_⟩
  refine q _ _ new (fun b x e => ?_) ⟨_, upd_same, rfl, rfl⟩
  rw [upd_ne (ne_of_none e new)]
  exact e
/-- a written tuple -/
def tTupZ (t : TA) : TE := fun σ H Q => t σ H fun xs H1 => xs.length ≤ sizeLine ∧ NewT xs H1 Q
theorem pe_tupZ {es : List Expr} {t : TA} {x1} {pos : Pos} (h : PA X es t) : PE X (.Tuple es x1 pos) (tTupZ t) := by
  refine ⟨fun pins s σ H Q I hq => wpAny_Tuple_spliced (thn (h.run pos pins s σ H _ I hq) fun us s1 ⟨xs, H1, I1, r, z, q⟩ => ⟨by rw [← r.length]; exact z, ?_⟩)⟩
  exact lay_new I1 z r q
/-- tuple(xs), xs a list -/
def rTupOf (K : PySem.W.Frag) : List V → Hp → VK → Prop := fun xs H Q => ∃ p ys, xs = [.ref p] ∧ SqL K H p ys ∧ ys.length ≤ 1000 ∧ NewT ys H Q
theorem call_tupOf : CallR X (.type "tuple") (rTupOf X.K) := by
  intro pins s σ H xs us Q I r h
  obtain ⟨p, ys, rfl, sq, le, q⟩ := h
  obtain ⟨u, rfl, rx⟩ := vals1 r
  cases rx
  obtain ⟨its, rv, pl, z⟩ := I.list sq
  have el := rv.length
  refine call_tuple_list pl.isList (fun h2 keep => ?_) (by simp only [List.size_toArray]; omega)
  exact lay_new (n := 0) (I.kept (t' := s.toks) keep) z rv q
/-- t[a:b], not the whole -/
def rCut (K : PySem.W.Frag) : V → Option Int → Option Int → Hp → VK → Prop := fun x lo hi H Q => ∃ a xs, x = .ref a ∧ SqT K H a xs ∧ ¬ (HT.sIx xs.length 0 lo = 0 ∧ HT.sIx xs.length xs.length hi = xs.length) ∧ NewT (cutV xs lo hi) H Q
theorem sl_cut : SlR X (rCut X.K) := by
  intro pins s σ H x v vl vu lo hi sl Q I rx hs pl pu h
  obtain ⟨a, xs, rfl, sq, part, q⟩ := h
  cases rx
  obtain ⟨its, r, at_, z⟩ := I.tuple sq
  have el : its.toArray.size = xs.length := by rw [List.size_toArray]; exact r.length.symm
  refine ⟨"tuple", _, PyProof.Rows.slot_tuple_getitem.lookup, at_.typeIs, HT.getItem_tuple_cut at_ hs pl pu (by rw [el]; exact part) ?_ (by rw [el]; exact z)⟩
  rw [el]
  exact lay_new I (Nat.le_trans (cutV_length xs lo hi) z) ((r.drop (HT.sIx xs.length 0 lo)).take (HT.sIx xs.length xs.length hi - HT.sIx xs.length 0 lo)) q
/-- t[a:b] of any kind: the whole is t itself; what comes is told by a relation that both give -/
def rCutA (K : PySem.W.Frag) : V → Option Int → Option Int → Hp → VK → Prop := fun x lo hi H Q => ∃ a xs, x = .ref a ∧ Tz H a xs ∧ (cutV xs lo hi = xs → Q (.ref a) H) ∧ NewT (cutV xs lo hi) H Q
theorem cut_whole {xs : List V} {lo hi : Option Int} (h : HT.sIx xs.length 0 lo = 0 ∧ HT.sIx xs.length xs.length hi = xs.length) : cutV xs lo hi = xs := by
  unfold cutV
  rw [h.1, h.2, List.drop_zero, Nat.sub_zero, List.take_of_length_le (Nat.le_refl _)]
theorem sl_cutA : SlR X (rCutA X.K) := by
  intro pins s σ H x v vl vu lo hi sl Q I rx hs pl pu h
  obtain ⟨a, xs, rfl, tz, q1, q2⟩ := h
  by_cases w : HT.sIx xs.length 0 lo = 0 ∧ HT.sIx xs.length xs.length hi = xs.length
  · exact sl_tupA pins s σ H _ v vl vu lo hi sl Q I rx hs pl pu ⟨a, xs, rfl, tz.sq, fun _ => q1 (cut_whole w), fun z => absurd w z⟩
  · exact sl_cut pins s σ H _ v vl vu lo hi sl Q I rx hs pl pu ⟨a, xs, rfl, tz.sq, w, q2⟩
/-- t + u -/
def rSum (K : PySem.W.Frag) : R2 := fun x y H Q => ∃ a b xs ys, x = .ref a ∧ y = .ref b ∧ Tz H a xs ∧ Tz H b ys ∧ xs.length + ys.length ≤ sizeLine ∧ (xs = [] → Q (.ref b) H) ∧ (ys = [] → Q (.ref a) H) ∧ NewT (xs ++ ys) H Q
theorem op_sum : OpR X (binaryOp .Add) (rSum X.K) := by
  intro pins s σ H x y v u Q I rx ry h
  obtain ⟨a, b, xs, ys, rfl, rfl, ta, tb, z, q0, q1, q2⟩ := h
  cases rx
  cases ry
  obtain ⟨its, r1, p1, _⟩ := I.tuple ta.sq
  obtain ⟨its2, r2, p2, _⟩ := I.tuple tb.sq
  by_cases e : xs = []
  · subst e
    cases r1
    exact cat_tup0 p1 p2 ⟨.ref b, H, I, rfl, q0 rfl⟩
  · refine HT.cat_tup p1 p2 (fun w => e (r1.nil_iff.mp w)) (fun w => ⟨.ref a, H, I, rfl, q1 (r2.nil_iff.mp w)⟩) (fun _ => ?_) (by rw [← r1.length, ← r2.length]; exact z)
    exact lay_new I (by rw [List.length_append]; exact z) (r1.append r2) q2
/-- t.m(e, ..), t a tuple made in the run -/
def tTm (r : V → List V → Hp → VK → Prop) (to : TE) (t : TA) : TE := fun σ H Q => to σ H fun x H1 => (∃ a xs, x = .ref a ∧ Tz H1 a xs) ∧ t σ H1 fun ys H2 => r x ys H2 Q
theorem pe_tm {o e : Expr} {es : List Expr} {to : TE} {t : TA} {name : Str} {apos cpos : Pos} {id : String} {r : V → List V → Hp → VK → Prop} (slot : Slot "tuple" name id) (hty : typeOf (.builtin id) = pure (.type "method_descriptor")) (hm : MtR X id r) (ho : PE X o to) (ha : PA X (e :: es) t)
    (hbase : attributeBase o name X.env (eval o X.env) = eval o X.env := by rfl)
    (few : ((backTo cpos (starEach (e :: es) X.env)).all (fun x => !x.1) && (backToKw cpos (keywordEach [] X.env)).all (fun x => x.1.isSome) && decide ((e :: es).length + ([] : List Keyword).length + (if ([] : List Keyword).isEmpty then 0 else 1) < 30)) = true := by rfl)
    (hline : (apos.endLine == cpos.line) = true := by rfl) (hs : starEach (e :: es) X.env = (false, eval e X.env) :: starEach es X.env := by rfl) (hpl : (backTo cpos (starEach es X.env)).any (·.1) = false := by rfl) :
    PE X (.Call (.Attribute o name apos) (e :: es) [] cpos) (tTm r to t) := by
  refine ⟨fun pins s σ H Q I h => wpAny_Call_method_late hbase few hline rfl (thn (ho.run pins s σ H _ I h) fun v s1 ⟨x, H1, I1, r1, ty, q1⟩ => ?_)⟩
  obtain ⟨a, xs, rfl, ob, eo, oc, od⟩ := ty
  cases r1
  have got : s1.heap.get? a = some ob := (show ObjOk X.prog X.w H1 s1.heap a (.frz ob (.tup xs)) from I1.hok a _ eo).1
  refine ⟨"tuple", id, PySem.F.plainAttrs_tuple, slot, hty, ⟨ob, got, oc⟩, fun b eb => by cases eb; exact ⟨ob, got, od⟩, ?_⟩
  have args := ha.run cpos pins s1 σ H1 _ I1 q1
  rw [hs] at args ⊢
  refine Calls.callWith_builtin (by show (false || (backTo cpos (starEach es X.env)).any (·.1)) = false; rw [hpl]; rfl) (Calls.evalArgs_plain (thn args fun us s2 ⟨vs, H2, I2, r2, q2⟩ => ?_))
  exact hm pins s2 σ H2 (.ref a) vs (.ref a) us Q I2 rfl r2 q2
end
end Xt

/-! Data at any depth, with dicts without entries anywhere in it: how it is read and shown. -/
namespace Gy
open PySem PySem.Spec PyProof.Rows L2 Xt
mutual
inductive Dn (K : PySem.W.Frag) (H : Hp) : V → PyData → Prop
  | non : Dn K H .non .none
  | bl (b : Bool) : Dn K H (.bl b) (.bool b)
  | int (i : Int) : Dn K H (.int i) (.int i)
  | str (x : Str) : Dn K H (.str x) (.str x)
  | lst {a : Addr} {xs : List V} {ds : List PyData} (h : H a = some (.lst xs)) (t : Dns K H xs ds) : Dn K H (.ref a) (.list ds)
  | tup {a : Addr} {xs : List V} {ds : List PyData} (h : Tz H a xs) (t : Dns K H xs ds) : Dn K H (.ref a) (.tuple ds)
  | dic {a : Addr} (h : H a = some (.dK [])) : Dn K H (.ref a) (.dict [])
inductive Dns (K : PySem.W.Frag) (H : Hp) : List V → List PyData → Prop
  | nil : Dns K H [] []
  | cons {v : V} {vs : List V} {d : PyData} {ds : List PyData} (h : Dn K H v d) (t : Dns K H vs ds) : Dns K H (v :: vs) (d :: ds)
end
mutual
theorem Dn.same {K : PySem.W.Frag} {H H' : Hp} (s : Same H H') : ∀ {v : V} {d : PyData}, Dn K H v d → Dn K H' v d
  | _, _, .non => .non
  | _, _, .bl b => .bl b
  | _, _, .int i => .int i
  | _, _, .str x => .str x
  | _, _, .lst h a => .lst (s _ _ h) (Dns.same s a)
  | _, _, .tup h a => .tup (h.same s) (Dns.same s a)
  | _, _, .dic h => .dic (s _ _ h)
theorem Dns.same {K : PySem.W.Frag} {H H' : Hp} (s : Same H H') : ∀ {vs : List V} {ds : List PyData}, Dns K H vs ds → Dns K H' vs ds
  | _, _, .nil => .nil
  | _, _, .cons h t => .cons (Dn.same s h) (Dns.same s t)
end
/-- a dict without entries, as the model has it -/
theorem dict_at {X : Cx} {pins : List (Addr × Obj)} {σ : L2.St} {H : Hp} {s : Shared} (I : Inv X pins σ H s) {a : Addr} (h : H a = some (.dK [])) :
    (a == sysModules) = false ∧ ∃ o es ep, s.heap.get? a = some o ∧ o.cls = .type "dict" ∧ o.data = .dict es ep ∧ es.toList = [] ∧ Reads s.heap (.ref a) (.dict []) [a] := by
  obtain ⟨_, ns, vs, kv, o, es, ep, g1, ex, g2, ks, ps, _⟩ := (show ObjOk X.prog X.w H s.heap a (.dK []) from I.hok a _ h)
  cases kv
  have e : es.toList = [] := by
    generalize es.toList = l at ps
    cases ps
    rfl
  exact ⟨ns, o, es, ep, g1, ex.1, g2, e, .dict g1 ex.1 g2 (as := []) (bs := []) (by rw [e]; exact .nil) (by rw [e]; exact .nil)⟩
section
variable {X : Cx} {pins : List (Addr × Obj)} {σ : L2.St} {H : Hp} {s : Shared}
mutual
theorem Dn.shows (I : Inv X pins σ H s) : ∀ {v : V} {d : PyData} {u : Value}, Dn X.K H v d → RelV v u → d.showable = true → d.shown.length ≤ sizeLine →
    ∃ as bs, Reads s.heap u d as ∧ ReadAtMost s.heap d.depth bs ∧ ReprK X.prog X.w bs s.heap d.depth u d.shown
  | _, _, _, .non, r, hs, hz => by
    cases r
    obtain ⟨bs, h1, h2⟩ := ReprK.of_reads (prog := X.prog) (w := X.w) (h₀ := s.heap) Reads.none hs (fun z => nomatch z) hz
    exact ⟨_, bs, .none, h1, h2⟩
  | _, _, _, .bl b, r, hs, hz => by
    cases r
    obtain ⟨bs, h1, h2⟩ := ReprK.of_reads (prog := X.prog) (w := X.w) (h₀ := s.heap) (Reads.bool b) hs (fun z => nomatch z) hz
    exact ⟨_, bs, .bool b, h1, h2⟩
  | _, _, _, .int i, r, hs, hz => by
    obtain ⟨t, rfl⟩ := r
    obtain ⟨bs, h1, h2⟩ := ReprK.of_reads (prog := X.prog) (w := X.w) (h₀ := s.heap) (Reads.int i t) hs (fun z => nomatch z) hz
    exact ⟨_, bs, .int i t, h1, h2⟩
  | _, _, _, .str x, r, hs, hz => by
    obtain ⟨t, rfl⟩ := r
    obtain ⟨bs, h1, h2⟩ := ReprK.of_reads (prog := X.prog) (w := X.w) (h₀ := s.heap) (Reads.str x t) hs (fun z => nomatch z) hz
    exact ⟨_, bs, .str x t, h1, h2⟩
  | _, _, _, .lst (a := a) (ds := ds) h ha, r, hs, hz => by
    cases r
    have hz' : (listText (PyData.shownAll ds)).length ≤ sizeLine := by simpa only [PyData.shown] using hz
    obtain ⟨its, rv, ⟨o, n, ho, hc, _, hd⟩, _⟩ := I.list (SqL.of h)
    obtain ⟨as, bs, hr, hb, hk⟩ := Dns.shows I ha rv (by simpa [PyData.showable] using hs) (fun t ht => Nat.le_trans (listText_mem_le ht) hz')
    have q : Reads s.heap (.ref a) (.list ds) _ := .list ho hc hd hr
    have hna : a ∉ bs := not_mem_of_deeper q (by simp only [PyData.depth]; omega) hb
    refine ⟨_, a :: bs, q, ReadAtMost.cons q (by simp only [PyData.depth]; omega) hb, ?_⟩
    simp only [PyData.depth, PyData.shown]
    cases its with
    | nil =>
      cases hr
      simp only [PyData.shownAll, listText_nil]
      exact ReprK.listEmpty ho hc hd
    | cons x l => exact ReprK.list ho hc hd hna (by simpa using hk.length_eq) (fun i y e => hk.item i y (by simpa using e))
  | _, _, _, .tup (a := a) (ds := ds) h ha, r, hs, hz => by
    cases r
    have hz' : (tupleText (PyData.shownAll ds)).length ≤ sizeLine := by simpa only [PyData.shown] using hz
    obtain ⟨its, rv, ⟨o, ho, hc, n, hd⟩, _⟩ := I.tuple h.sq
    obtain ⟨as, bs, hr, hb, hk⟩ := Dns.shows I ha rv (by simpa [PyData.showable] using hs) (fun t ht => Nat.le_trans (tupleText_mem_le ht) hz')
    have q : Reads s.heap (.ref a) (.tuple ds) _ := .tuple ho hc hd hr
    have hna : a ∉ bs := not_mem_of_deeper q (by simp only [PyData.depth]; omega) hb
    refine ⟨_, a :: bs, q, ReadAtMost.cons q (by simp only [PyData.depth]; omega) hb, ?_⟩
    simp only [PyData.depth, PyData.shown]
    exact ReprK.tuple ho hc hd hna hk
  | _, _, _, .dic (a := a) h, r, hs, hz => by
    cases r
    obtain ⟨ns, o, es, ep, ho, hc, hd, he, q⟩ := dict_at I h
    refine ⟨_, [a], q, ReadAtMost.cons q (n := 0) (Nat.zero_le _) (fun _ z => nomatch z), ?_⟩
    exact ReprK.dict (as := []) (d := 0) (ps := []) ho hc hd ns (fun z => nomatch z) (by rw [he]; exact .nil)
theorem Dns.shows (I : Inv X pins σ H s) : ∀ {vs : List V} {ds : List PyData} {us : List Value}, Dns X.K H vs ds → Vals vs us → PyData.showableAll ds = true → (∀ t ∈ PyData.shownAll ds, t.length ≤ sizeLine) →
    ∃ as bs, ReadsAll s.heap us ds as ∧ ReadAtMost s.heap (PyData.depthAll ds) bs ∧ ReprAllK X.prog X.w bs s.heap (PyData.depthAll ds) us (PyData.shownAll ds)
  | _, _, _, .nil, .nil, _, _ => ⟨[], [], .nil, (fun _ h => nomatch h), .nil⟩
  | _, _, _, .cons (d := d) (ds := ds) h hs, .cons r rs, sh, len => by
    have sh2 : d.showable = true ∧ PyData.showableAll ds = true := by simpa only [PyData.showableAll, Bool.and_eq_true] using sh
    obtain ⟨as, b1, rd, m1, k1⟩ := Dn.shows I h r sh2.1 (len _ List.mem_cons_self)
    obtain ⟨as2, b2, rd2, m2, k2⟩ := Dns.shows I hs rs sh2.2 fun t ht => len t (List.mem_cons_of_mem _ ht)
    have l1 : d.depth ≤ PyData.depthAll (d :: ds) := Nat.le_max_left _ _
    have l2 : PyData.depthAll ds ≤ PyData.depthAll (d :: ds) := Nat.le_max_right _ _
    refine ⟨as ++ as2, b1 ++ b2, .cons rd rd2, (m1.mono l1).append (m2.mono l2), ?_⟩
    exact .cons ((k1.more fun b hb => List.mem_append_left _ hb).level_le l1) (k2.more_le (fun b hb => List.mem_append_right _ hb) l2)
end
end
/-- repr of any such value -/
def rReprN (K : PySem.W.Frag) : List V → Hp → VK → Prop := fun xs H Q => ∃ v d, xs = [v] ∧ Dn K H v d ∧ d.showable = true ∧ d.depth ≤ 60 ∧ d.shown.length ≤ sizeLine ∧ Q (.str d.shown) H
theorem repr_dn {X : Cx} (hg : X.A.guards = some []) (hu : X.A.units + 70 < cLine) : CallR X (.builtin "repr") (rReprN X.K) := by
  intro pins s σ H xs us Q I r h
  obtain ⟨v, d, rfl, dn, sh, dp, len, q⟩ := h
  obtain ⟨u, rfl, ru⟩ := vals1 r
  have fin : ∀ (h' : Heap) (x : Tok) (tk : Nat), (∀ b o, s.heap.get? b = some o → h'.get? b = some o) → ∃ y H', Inv X pins σ H' { s with heap := h', toks := tk } ∧ RelV y (.str d.shown x) ∧ Q y H' := fun h' x tk hk => ⟨.str d.shown, H, I.kept hk, ⟨x, rfl⟩, q⟩
  cases dn with
  | non =>
    cases ru
    exact P.repr_of_none ⟨.str "None", H, I.tok _, ⟨_, rfl⟩, q⟩
  | bl b =>
    cases ru
    exact P.repr_of_bool ⟨.str (PyData.shown (.bool b)), H, I.tok _, ⟨_, by cases b <;> rfl⟩, q⟩
  | int i =>
    obtain ⟨t, rfl⟩ := ru
    exact P.repr_of_int (by simpa [PyData.showable] using sh) ⟨.str (toString i), H, I.tok _, ⟨_, rfl⟩, q⟩
  | str x =>
    obtain ⟨t, rfl⟩ := ru
    exact P.repr_of_str ⟨.str (reprText x), H, I.tok _, ⟨_, rfl⟩, q⟩ len
  | @lst a ys ds h ha =>
    cases ru
    have len' : (listText (PyData.shownAll ds)).length ≤ sizeLine := by simpa only [PyData.shown] using len
    obtain ⟨its, rv, ⟨o, n, g1, g2, _, g3⟩, _⟩ := I.list (SqL.of h)
    obtain ⟨as, bs, rd, at_, sw⟩ := Dns.shows I ha rv (by simpa [PyData.showable] using sh) fun t ht => Nat.le_trans (listText_mem_le ht) len'
    have out : a ∉ bs := not_mem_of_deeper (.list g1 g2 g3 rd) (by simp only [PyData.depth]; omega) at_
    refine call_repr_slot (T := "list") (idr := "list.__repr__") (by omega) ⟨o, g1, g2⟩ F.slot_list_repr.toG ?_
    match its, rv, g3, rd, sw with
    | [], rv, g3, rd, _ =>
      cases rd
      exact call_list_repr_empty ⟨o, g1, g2⟩ g1 g3 ⟨_, _, rfl, .str "[]", H, I.tok _, ⟨_, rfl⟩, by simpa only [PyData.shown, PyData.shownAll, listText_nil] using q⟩
    | x :: rest, _, g3, _, sw =>
      refine call_list_reprK g1 g2 g3 out (by simpa using sw.length_eq) (fun i y e => sw.item i y (by simpa using e)) (g := []) hg (fun b _ => Clear.nil b) (d := PyData.depthAll ds) ?_ (fun _ _ e => e) (fun h' u tk hk => ⟨_, _, rfl, fin h' u tk hk⟩) len'
      simp only [PyData.depth] at dp
      show X.A.units + 1 + (PyData.depthAll ds + 1) < cLine
      omega
  | @tup a ys ds h ha =>
    cases ru
    have len' : (tupleText (PyData.shownAll ds)).length ≤ sizeLine := by simpa only [PyData.shown] using len
    obtain ⟨its, rv, ⟨o, g1, g2, n, g3⟩, _⟩ := I.tuple h.sq
    obtain ⟨as, bs, rd, at_, sw⟩ := Dns.shows I ha rv (by simpa [PyData.showable] using sh) fun t ht => Nat.le_trans (tupleText_mem_le ht) len'
    have out : a ∉ bs := not_mem_of_deeper (.tuple g1 g2 g3 rd) (by simp only [PyData.depth]; omega) at_
    refine call_repr_slot (T := "tuple") (idr := "tuple.__repr__") (by omega) ⟨o, g1, g2⟩ F.slot_tuple_repr ?_
    refine call_tuple_reprK g1 g2 g3 out sw (g := []) hg (fun b _ => Clear.nil b) (d := PyData.depthAll ds) ?_ (fun _ _ e => e) (fun h' u tk hk => ⟨_, _, rfl, fin h' u tk hk⟩) len'
    simp only [PyData.depth] at dp
    show X.A.units + 1 + (PyData.depthAll ds + 1) < cLine
    omega
  | @dic a h =>
    cases ru
    obtain ⟨ns, o, es, ep, g1, g2, g3, he, _⟩ := dict_at I h
    refine call_repr_slot (T := "dict") (idr := "dict.__repr__") (by omega) ⟨o, g1, g2⟩ F.slot_dict_repr ?_
    refine call_dict_reprK (as := []) (d := 0) (ps := []) g1 g2 g3 ns (fun z => nomatch z) (by rw [he]; exact .nil) (g := []) hg (fun b _ => Clear.nil b) ?_ (fun _ _ e => e) (fun h' u tk hk => ⟨_, _, rfl, fin h' u tk hk⟩) len
    show X.A.units + 1 + (0 + 1) < cLine
    omega
end Gy

/-! len(set(t)) of a tuple of texts, of any number of them. -/
namespace Xs
open PySem PySem.Spec PyProof.Rows L2
/-- how many different ones the first i are -/
def numd (xs : List Str) : Nat → Nat
  | 0 => 0
  | i + 1 => if xs.getD i Str.empty ∈ xs.take i then numd xs i else numd xs i + 1
theorem numd_le (xs : List Str) : ∀ i, numd xs i ≤ i
  | 0 => Nat.le_refl _
  | i + 1 => by
    have := numd_le xs i
    unfold numd
    split <;> omega
theorem numd_full (xs : List Str) : ∀ i, i ≤ xs.length → (numd xs i = i ↔ (xs.take i).Nodup)
  | 0, _ => by simp [numd]
  | i + 1, hi => by
    have lt : i < xs.length := hi
    have ih := numd_full xs i (Nat.le_of_lt lt)
    have le := numd_le xs i
    have e : xs.getD i Str.empty = xs[i] := by rw [List.getD_eq_getElem?_getD, List.getElem?_eq_getElem lt]; rfl
    have t : xs.take (i + 1) = xs.take i ++ [xs[i]] := by rw [List.take_add_one, List.getElem?_eq_getElem lt]; rfl
    unfold numd
    rw [e, t]
    by_cases m : xs[i] ∈ xs.take i
    · rw [if_pos m]
      refine ⟨fun z => by omega, fun z => ?_⟩
      rw [List.nodup_append] at z
      exact absurd rfl (z.2.2 _ m _ List.mem_cons_self)
    · rw [if_neg m]
      refine ⟨fun z => ?_, fun z => ?_⟩
      · rw [List.nodup_append]
        refine ⟨ih.mp (by omega), by simp, fun a ha b hb ab => ?_⟩
        rw [List.mem_singleton.mp hb] at ab
        exact m (ab ▸ ha)
      · rw [List.nodup_append] at z
        rw [ih.mpr z.1]
section
variable {P : Program} {w : World} {A : Around} {R : Result → Shared → Prop} {J : Addr} {fp wr : List Addr} {G : Array GenState → Array GenState → Prop} {n : Nat} {Y : Nat → Value → Prop} {Z : Nat → Shared → Prop}
/-- the set takes text after text -/
theorem take_texts (W : WalksS P w A.in1 J fp wr G n Y Z) (S : Addr) (out : S ∉ fp) (xs : List Str) (len : xs.length = n) (room : n + 1 < scanBound) (val : ∀ i v, Y i v → ∃ t, v = .str (xs.getD i Str.empty) t) :
    ∀ (k i : Nat) (s : Shared), n - i = k → i ≤ n → Z i s → s.heap.SetOf (strKind P w) S (fun x => decide (x ∈ xs.take i)) (numd xs i) →
      (∀ s2, Moved (S :: wr) G s s2 → s2.heap.SetOf (strKind P w) S (fun x => decide (x ∈ xs.take n)) (numd xs n) → R (.ok (.ret .none)) s2) →
      codeAny (model P w) A (.builtin "set.update.loop" ⟨[.ref S, .ref J], []⟩) R s := by
  have out2 : S ∉ wr := fun h => out (W.sub _ h)
  have more : ∀ b ∈ wr, b ∈ S :: wr := fun b hb => List.mem_cons_of_mem _ hb
  intro k
  induction k with
  | zero =>
    intro i s ek le z hS fin
    obtain rfl : i = n := by omega
    refine codeAny_builtin PyProof.Rows.F.entry_set_update_loop ?_; rw [Around.under_plainId PyProof.Rows.F.plain_set_update_loop _]
    show wpAny _ A.in1 (pyNext (.ref J) >>= _) _ _ s
    refine wpAny_bind (W.done s _ _ z fun s2 mv => ?_)
    obtain ⟨o, es, ep, t, ho, rest⟩ := hS
    exact wpAny_pure (fin s2 (mv.mono more) ⟨o, es, ep, t, mv.heap S _ out2 ho, rest⟩)
  | succ k ih =>
    intro i s ek le z hS fin
    have lt : i < n := by omega
    refine codeAny_builtin PyProof.Rows.F.entry_set_update_loop ?_; rw [Around.under_plainId PyProof.Rows.F.plain_set_update_loop _]
    show wpAny _ A.in1 (pyNext (.ref J) >>= _) _ _ s
    refine wpAny_bind (W.item i s _ _ lt z fun v s2 hY z2 mv => ?_)
    obtain ⟨t, rfl⟩ := val i v hY
    have hS2 : s2.heap.SetOf (strKind P w) S (fun x => decide (x ∈ xs.take i)) (numd xs i) := by
      obtain ⟨o, es, ep, tb, ho, rest⟩ := hS
      exact ⟨o, es, ep, tb, mv.heap S _ out2 ho, rest⟩
    show wpAny _ A.in1 (holding [Value.str (xs.getD i Str.empty) t] (setAdd S (.str (xs.getD i Str.empty) t)) >>= _) _ _ s2
    refine wpAny_bind (wpAny_holding ?_); unfold setAdd; refine wpAny_holding ?_
    refine wpAny_bind ((strKind P w).pyHash (k := xs.getD i Str.empty) (strKind_is _ _ _ _) ?_)
    have nl := numd_le xs i
    refine wpAny_setAddHashed_of (knd := strKind P w) (s := { s2 with toks := s2.toks + 1 }) (strKind_is _ _ _ _) rfl hS2 (by omega) fun h3 sb hS3 => ?_
    have hS4 : h3.SetOf (strKind P w) S (fun x => decide (x ∈ xs.take (i + 1))) (numd xs (i + 1)) := by
      have lt' : i < xs.length := by omega
      have e : xs.getD i Str.empty = xs[i] := by rw [List.getD_eq_getElem?_getD, List.getElem?_eq_getElem lt']; rfl
      have t : xs.take (i + 1) = xs.take i ++ [xs[i]] := by rw [List.take_add_one, List.getElem?_eq_getElem lt']; rfl
      refine SetOf_congr hS3 (fun x => ?_) ?_
      · show (decide (x ∈ xs.take i) || decide (x = xs.getD i Str.empty)) = decide (x ∈ xs.take (i + 1))
        rw [e, ← Bool.decide_or]
        congr 1
        rw [t, List.mem_append, List.mem_singleton]
      · show _ = if xs.getD i Str.empty ∈ xs.take i then numd xs i else numd xs i + 1
        simp only [decide_eq_true_eq]
    refine wpAny_pure ⟨plainId_quiet PyProof.Rows.F.plain_set_update_loop _, ih (i + 1) _ (by omega) lt (W.frame _ s2 _ _ z2 (Nat.le_succ _) fun b hb o e => ?_) hS4 fun s4 mv4 hS5 => ?_⟩
    · rw [sb.2 b (fun h : b = S => out (h ▸ hb))]
      exact e
    · refine fin s4 (Moved.trans W.gtrans ((mv.mono more).then_heap (Nat.le_succ _) fun b o hb e => ?_) mv4) hS5
      rw [sb.2 b (fun h : b = S => hb (h ▸ List.mem_cons_self))]
      exact e
end
/-- the set before anything is in it -/
def set0 (b : Bool) : Obj := { cls := .type "set", dict := none, data := .set #[] 0 (.fresh 0 0 b) }
section
variable {P : Program} {w : World} {A : Around} {E : Value → Shared → Prop} {s : Shared}
set_option maxHeartbeats 3200000 in
theorem set_of_texts {l : Addr} {its : Array Value} {xs : List Str} {Q : Value → Shared → Prop} (calm : A.handled = none) (at_ : s.heap.IsTuple l its) (are : StrsAre its.toList xs) (room : xs.length + 1 < scanBound)
    (fin : ∀ (h2 : Heap) (tk : Nat), h2.SetOf (strKind P w) s.heap.objs.size (fun x => decide (x ∈ xs)) (numd xs xs.length) → (∀ b o, b < s.heap.objs.size → s.heap.get? b = some o → h2.get? b = some o) → Q (.ref s.heap.objs.size) { s with heap := h2, toks := tk }) :
    wpAny (model P w) A (call (.type "set") [.ref l]) Q E s := by
  have sz : xs.length = its.size := by rw [← StrsAre.len_eq are, Array.length_toList]
  obtain ⟨_, _, m0⟩ := PySem.F.called_set.mro
  have m1 := PySem.F.called_set.made; have m2 := PySem.F.called_set.sub
  refine wpAny_call (codeAny_of_tree ?_); show wpAny _ _ (callAny (.type "set") _) _ _ _
  refine wpAny_pure ⟨Code.quiet_builtin _ (by decide +kernel), codeAny_builtin PySem.F.entry_type_call ?_⟩; rw [Around.under_plain (weight_type_call_type "set" [.ref l] []) rfl]
  have m3 := PySem.F.called_set.notType; have m4 := PySem.F.called_set.canCreate; have m5 := PySem.F.typeCall_set_1 (.ref l)
  repeat (any_goals (first | assumption | wp_step))
  refine codeAny_mono (code_set_new_1 (.ref l) (E := E) (Q₁ := fun ob s1 => ∃ led : Bool, ob = .ref s.heap.objs.size ∧ s1 = { s with heap := s.heap.push (set0 led) }) fun led => ⟨led, rfl, rfl⟩) fun r s1 hr => ?_
  rcases r with e | (_ | _ | _ | ob)
  · exact hr
  · exact hr.elim
  · exact hr.elim
  · exact hr.elim
  obtain ⟨led, rfl, rfl⟩ := hr
  have got : (s.heap.push (set0 led)).get? s.heap.objs.size = some (set0 led) := Heap.get?_push_size _ rfl
  have ty : Shared.TypeIs { s with heap := s.heap.push (set0 led) } (.ref s.heap.objs.size) "set" := ⟨_, got, rfl⟩
  have m6 := PySem.F.called_set.init.lookup; have m7 := PySem.F.called_set.init.bind (.ref s.heap.objs.size)
  repeat (any_goals (first | assumption | wp_step))
  refine codeAny_mono (codeAny_call_builtin (R := wants (fun r s2 => r = .none ∧ ∃ h2 tk, s2 = { s with heap := h2, toks := tk } ∧ h2.SetOf (strKind P w) s.heap.objs.size (fun x => decide (x ∈ xs)) (numd xs xs.length) ∧
      (∀ b o, b < s.heap.objs.size → s.heap.get? b = some o → h2.get? b = some o)) E) PySem.F.called_set.init.plain PySem.F.entry_set_init (check_set_init_1 ty ?_)) fun r2 s2 hr2 => ?_
  · obtain ⟨ol, go, co, nl, dl⟩ := at_
    obtain ⟨ocls, odict, odata, oslots⟩ := ol
    simp only at co dl
    subst co dl
    have go2 : (s.heap.push (set0 led)).get? l = some { cls := .type "tuple", dict := odict, data := .seq its nl, slots := oslots } := Heap.get?_push_of_some _ go
    have m8 := PySem.F.sub_tuple_set; have m9 := PySem.F.sub_tuple_frozenset
    have m10 : (Value.type "tuple" == Value.type "dict") = false := by decide
    have at2 : (s.heap.push (set0 led)).IsTuple l its := ⟨_, go2, rfl, nl, rfl⟩
    unfold Builtin.«set.__init__» noKeywords Builtin.Frozenset.updateFrom; generalize ePI : pyIter = PI
    wp_walk
    subst ePI
    refine wpAny_pyIter_tuple at2 (wpAny_bind (wpAny_runValue ?_))
    have low : l < s.heap.objs.size := Heap.lt_size go
    have calm3 : A.in1.in1.in1.handled = none := by simp [calm]
    have far : l ≠ (s.heap.push (set0 led)).objs.size := by rw [Heap.size_push]; exact Nat.ne_of_lt (Nat.lt_succ_of_lt low)
    have out : s.heap.objs.size ∉ [(s.heap.push (set0 led)).objs.size, l] := by
      rw [Heap.size_push]
      simp only [List.mem_cons, List.not_mem_nil, or_false, not_or]
      exact ⟨Nat.ne_of_lt (Nat.lt_succ_self _), Nat.ne_of_gt low⟩
    refine take_texts ((Walks.tuple calm3 _ l far its).toS) s.heap.objs.size out xs sz (by rw [← sz]; exact room) (fun i v hv => SS.strs_at are i v (by rw [Array.getElem?_toList]; exact hv)) (its.size - 0) 0 _ (by omega) (Nat.zero_le _)
      ⟨⟨_, Heap.get?_push_size _ rfl, rfl, rfl⟩, at2.push _⟩ ?first ?last
    case first =>
      have got2 : ((s.heap.push (set0 led)).push { cls := .type "tuple_iterator", data := .fields #[.ref l, .int 0 0] }).get? s.heap.objs.size = some (set0 led) := Heap.get?_push_of_some _ got
      exact SetOf_congr ((setObjOf_fresh (knd := strKind P w) led).setOf got2 (by unfold scanBound; omega)) (fun _ => rfl) rfl
    case last =>
      intro s2 mv hS
      obtain ⟨h2, g2, d2, tk2, os2⟩ := s2
      obtain rfl : g2 = s.gens := mv.gens
      obtain rfl : d2 = s.drawn := mv.drawn
      obtain rfl : os2 = s.os := mv.os
      rw [← sz, List.take_of_length_le (Nat.le_refl _)] at hS
      show wpAny _ _ _ _ _ _
      refine wpAny_pure (wpAny_pure ⟨rfl, h2, tk2, rfl, hS, fun b o lb e => ?_⟩)
      refine mv.heap b o ?_ (Heap.get?_push_of_some _ (Heap.get?_push_of_some _ e))
      rw [Heap.size_push]
      simp only [List.mem_cons, List.not_mem_nil, or_false, not_or]
      exact ⟨Nat.ne_of_lt lb, Nat.ne_of_lt (Nat.lt_succ_of_lt lb)⟩
  · rcases r2 with e | (_ | _ | _ | r)
    · exact hr2
    · exact hr2.elim
    · exact hr2.elim
    · exact hr2.elim
    obtain ⟨rfl, h2, tk, rfl, hS, keep⟩ := hr2
    repeat (any_goals (first | assumption | wp_step))
    exact fin _ _ hS keep
end
section
variable {X : Cx}
/-- len(set(t)), t a tuple of texts -/
def tLenTexts (K : PySem.W.Frag) (ta : TE) : TE := fun σ H Q => ta σ H fun x H1 => ∃ (l : Addr) (xs : List Str), x = .ref l ∧ SqT K H1 l (xs.map V.str) ∧ xs.length ≤ 4000 ∧ Q (.int (numd xs xs.length : Nat)) H1
theorem pe_lenTexts {a : Expr} {ta : TE} {p p2 q pos : Pos} (hg : Gl X "len") (hm : X.mg "len" = none) (hg2 : Gl X "set") (hm2 : X.mg "set" = none) (ha : PE X a ta) (calm : X.calm = true := by rfl)
    (na : starEach [a] X.env = (false, eval a X.env) :: starEach [] X.env := by rfl) : PE X (.Call (.Name "len" p) [.Call (.Name "set" p2) [a] [] q] [] pos) (tLenTexts X.K ta) := by
  refine ⟨fun pins s σ H Q I h => Call_ (ld_blt I hg hm boot_len ?_)⟩
  refine PyProof.Rows.callWith_builtin1 (PyProof.Rows.args_cons (Call_ (ld_blt I hg2 hm2 boot_set ?_)) rfl) rfl rfl
  refine PyProof.Rows.callWith_type1 (PyProof.Rows.args_cons (thn (ha.run pins s σ H _ I h) fun v s1 ⟨x, H1, I1, r1, q1⟩ => PyProof.Rows.args_nil ?_) na) na rfl
  obtain ⟨l, xs, rfl, sq, le, q1⟩ := q1
  cases r1
  obtain ⟨its, r, pl, _⟩ := I1.tuple sq
  refine set_of_texts (I1.ok.hd calm) pl (by simpa using strsAre_of r) (by unfold scanBound; omega) fun h2 tk hS keep => ?_
  refine PyProof.Rows.args_nil ?_
  obtain ⟨o, es, ep, t, ho, ex, hd, _, _, _, hf, hn⟩ := hS
  have I2 : Inv X pins σ H1 { s1 with heap := h2, toks := tk } := I1.kept fun b o e => keep b o (Heap.lt_size e) e
  have nl := numd_le xs xs.length
  exact call_len_set ho ex hd hf (by rw [hn]; omega) ⟨.int (numd xs xs.length : Nat), H1, I2.tok _, ⟨_, by rw [hn]⟩, q1⟩
end
end Xs

/-! Defs and what is known of them in one word; the built-in names that are not taken. -/
namespace My
open PySem PySem.Spec PyProof.Rows L2 Gy Xl Xs Xt
/-- no name of the module's own hides a built-in one -/
structure Bn (mg : Str → Option Value) : Prop where
  len : mg "len" = none
  range : mg "range" = none
  abs : mg "abs" = none
  max : mg "max" = none
  min : mg "min" = none
  divmod : mg "divmod" = none
  isinstance : mg "isinstance" = none
  str : mg "str" = none
  int : mg "int" = none
  bool : mg "bool" = none
  tuple : mg "tuple" = none
  list : mg "list" = none
  set : mg "set" = none
  dict : mg "dict" = none
  all : mg "all" = none
  any : mg "any" = none
  repr : mg "repr" = none
  sorted : mg "sorted" = none
  enumerate : mg "enumerate" = none
  zip : mg "zip" = none
/-- a def of the top, by its name, with its promise -/
structure Fk (P : Program) (w : World) (K : PySem.W.Frag) (mg : Str → Option Value) (base : Heap) (CX : CXT) (k : Nat) (nm : Str) (ps : List Str) (sp : Sp) : Prop where
  ex : ∃ (f : Addr) (fd : FuncData), mg nm = some (.ref f) ∧ PySem.W.keepIn K (.ref f) = true ∧ Binds K fd ps [] ∧ FnOk P w K mg base CX k f fd ps sp
/-- the same where no repr is under way -/
structure Fg (P : Program) (w : World) (K : PySem.W.Frag) (mg : Str → Option Value) (base : Heap) (CX : CXT) (k : Nat) (nm : Str) (ps : List Str) (sp : Sp) : Prop where
  ex : ∃ (f : Addr) (fd : FuncData), mg nm = some (.ref f) ∧ PySem.W.keepIn K (.ref f) = true ∧ Binds K fd ps [] ∧ FnG P w K mg base CX k f fd ps sp
section
variable {P : Program} {w : World} {K : PySem.W.Frag} {mg : Str → Option Value} {base : Heap} {CX : CXT} {k : Nat} {nm : Str} {ps : List Str} {sp : Sp}
theorem Fk.imp {sp' : Sp} (F : Fk P w K mg base CX k nm ps sp) (h : ∀ vs H Q E, sp' vs H Q E → sp vs H Q E) : Fk P w K mg base CX k nm ps sp' := by
  obtain ⟨f, fd, a, b, c, d⟩ := F.ex
  exact ⟨f, fd, a, b, c, d.imp h⟩
theorem Fk.g (F : Fk P w K mg base CX k nm ps sp) : Fg P w K mg base CX k nm ps sp := by
  obtain ⟨f, fd, a, b, c, d⟩ := F.ex
  exact ⟨f, fd, a, b, c, .of d⟩
/-- what is raised is never raised -/
theorem passN {X : Cx} : Passes (L2.CX X.prog X.w) X (fun _ _ _ => False) := by
  rintro pins σ H s e s' I ⟨a, B, H', cls, d, _, _, _, _, _, _, _, f⟩
  exact f.elim
end
section
variable {X : Cx} {CX : CXT} {k : Nat} {ps : List Str} {sp : Sp} {E : XK} {x : Str} {p pos : Pos} {e : Expr} {es : List Expr} {t : TA}
theorem pe_callF (F : Fk X.prog X.w X.K X.mg X.base CX k x ps sp) (hr : Room k X.A) (hg : Gl X x) (hx : Passes CX X E) (ha : PA X (e :: es) t)
    (hdb : (x == ("__debug__" : Str)) = false := by decide) (he : starEach (e :: es) X.env = (false, eval e X.env) :: starEach es X.env := by rfl)
    (hpl : (backTo pos (starEach es X.env)).any (·.1) = false := by rfl) : PE X (.Call (.Name x p) (e :: es) [] pos) (tCall sp [] E t) := by
  obtain ⟨f, fd, m, kp, b, G⟩ := F.ex
  exact pe_call G hr hg m kp b .nil hx ha hdb he hpl
theorem pe_callFg (F : Fg X.prog X.w X.K X.mg X.base CX k x ps sp) (gd : X.A.guards = some []) (hr : Room k X.A) (hg : Gl X x) (hx : Passes CX X E) (ha : PA X (e :: es) t)
    (hdb : (x == ("__debug__" : Str)) = false := by decide) (he : starEach (e :: es) X.env = (false, eval e X.env) :: starEach es X.env := by rfl)
    (hpl : (backTo pos (starEach es X.env)).any (·.1) = false := by rfl) : PE X (.Call (.Name x p) (e :: es) [] pos) (tG sp E t) := by
  obtain ⟨f, fd, m, kp, b, G⟩ := F.ex
  exact pe_callG G gd hr hg m kp b hx ha hdb he hpl
end
/-! ### heaps -/
theorem same_upd {H : Hp} {p : Addr} {o : HO} (h : H p = none) : Same H (upd H p o) := fun b x e => by
  rw [upd_ne (ne_of_none e h)]
  exact e
/-- a new object that is written once more: what stood before stands -/
theorem same_upd2 {H0 H : Hp} {p : Addr} {o : HO} (s : Same H0 H) (h : H0 p = none) : Same H0 (upd H p o) := fun b x e => by
  rw [upd_ne (ne_of_none e h)]
  exact s b x e
/-- all but r stands -/
def But (r : Addr) (H H' : Hp) : Prop := ∀ b o, b ≠ r → H b = some o → H' b = some o
theorem But.refl (r : Addr) (H : Hp) : But r H H := fun _ _ _ h => h
theorem But.trans {r : Addr} {H H1 H2 : Hp} (a : But r H H1) (b : But r H1 H2) : But r H H2 := fun c o n h => b c o n (a c o n h)
theorem But.of {r : Addr} {H H' : Hp} (s : Same H H') : But r H H' := fun c o _ h => s c o h
theorem But.upd {r L : Addr} {H H' : Hp} {o : HO} (h : But r H H') (n : H L = none) : But r H (L2.upd H' L o) := fun c u nc e => by
  rw [upd_ne (ne_of_none e n)]
  exact h c u nc e
theorem small200 {n : Nat} (h : n ≤ 200) : n < sizeLine := Nat.lt_of_le_of_lt h (by decide)
theorem le200 {n : Nat} (h : n ≤ 200) : n ≤ sizeLine := Nat.le_of_lt (small200 h)
/-- an item of a list of texts, by a number below its length -/
theorem at_in {α : Type} {xs : List α} {d : Int} (h0 : 0 ≤ d) (h1 : d < (xs.length : Int)) : ∃ v, atI xs d = some v ∧ v ∈ xs := by
  obtain ⟨j, rfl⟩ := Int.eq_ofNat_of_zero_le h0
  have hj : j < xs.length := by omega
  exact ⟨xs[j], atI_nat (List.getElem?_eq_getElem hj), List.getElem_mem hj⟩
theorem fun_g0 {P : Program} {w : World} {K : PySem.W.Frag} {mg : Str → Option Value} {base : Heap} {k : Nat} {f : Addr} {fd : FuncData} {ps N : List Str} {sp : Sp} {x qual : Str} {st : Stmt} (F : Fun K x qual st f fd) (S : FnScope N ps (defScope st)) (ln : ∀ {vs H Q E}, sp vs H Q E → vs.length = ps.length)
    (bd : ∀ (cdv : Value) (A : Around) (outer : List Env) (s : Shared) (H : Hp) (vs : List V) (Q : VK) (E : XK), A.guards = some [] →
      Room k (A.deeper (envOfC qual (defScope st) s.heap.objs.size f cdv)) → sp vs H Q E →
      ∃ t, PSs (cxOf CX0 P w K mg base N qual (defScope st) f cdv A outer s H E).nox (defBody st) t ∧
        t { nx := fun _ H' => Q .non H', rt := Q } (start N vs) H) : FnG P w K mg base CX0 (k + 1) f fd ps sp := by
  refine fun_g F S ln fun cdv A outer s H vs Q E g hr h => ?_
  obtain ⟨t, ht, hq⟩ := bd cdv A outer s H vs Q E g hr h
  exact ⟨t, ht.nox, hq⟩
theorem Room.units70 {k : Nat} {A : Around} (r : Room k A) : A.units + 70 < cLine := by
  have := r.un
  omega
theorem all_true {n : Nat} : ((List.replicate n true).all id) = true := by
  induction n with
  | zero => rfl
  | succ n ih => rw [List.replicate_succ, List.all_cons, ih]; rfl
end My

namespace My
open PySem PySem.Spec PyProof.Rows L2
def top (i : Nat) : Stmt := PySem.Challenge.pw_relinktree_k32_forwards.main.body.getD i (.Pass ⟨0, 0, 0, 0⟩)
abbrev s_is_host_name : Stmt := top 7
theorem sc_is_host_name : FnScope ["value"] ["value"] (defScope s_is_host_name) := ⟨rfl, rfl, rfl, by decide +kernel, rfl, by decide +kernel, by decide +kernel⟩
abbrev s_is_text_of : Stmt := top 8
theorem sc_is_text_of : FnScope ["value", "characters", "longest", "character"] ["value", "characters", "longest"] (defScope s_is_text_of) := ⟨rfl, rfl, rfl, by decide +kernel, rfl, by decide +kernel, by decide +kernel⟩
abbrev s_is_integer_from : Stmt := top 10
theorem sc_is_integer_from : FnScope ["value", "least"] ["value", "least"] (defScope s_is_integer_from) := ⟨rfl, rfl, rfl, by decide +kernel, rfl, by decide +kernel, by decide +kernel⟩
abbrev s_is_index : Stmt := top 11
theorem sc_is_index : FnScope ["value", "size"] ["value", "size"] (defScope s_is_index) := ⟨rfl, rfl, rfl, by decide +kernel, rfl, by decide +kernel, by decide +kernel⟩
abbrev s_is_relink : Stmt := top 14
theorem sc_is_relink : FnScope ["value", "path", "cut"] ["value"] (defScope s_is_relink) := ⟨rfl, rfl, rfl, by decide +kernel, rfl, by decide +kernel, by decide +kernel⟩
abbrev s_is_relink_path : Stmt := top 15
theorem sc_is_relink_path : FnScope ["value", "host"] ["value"] (defScope s_is_relink_path) := ⟨rfl, rfl, rfl, by decide +kernel, rfl, by decide +kernel, by decide +kernel⟩
abbrev s_is_cut_of : Stmt := top 16
theorem sc_is_cut_of : FnScope ["path", "value"] ["path", "value"] (defScope s_is_cut_of) := ⟨rfl, rfl, rfl, by decide +kernel, rfl, by decide +kernel, by decide +kernel⟩
abbrev s_check_relink : Stmt := top 17
theorem sc_check_relink : FnScope ["value"] ["value"] (defScope s_check_relink) := ⟨rfl, rfl, rfl, by decide +kernel, rfl, by decide +kernel, by decide +kernel⟩
abbrev s_position : Stmt := top 18
theorem sc_position : FnScope ["relink", "host", "path"] ["relink", "host"] (defScope s_position) := ⟨rfl, rfl, rfl, by decide +kernel, rfl, by decide +kernel, by decide +kernel⟩
abbrev s_forward_bit : Stmt := top 20
theorem sc_forward_bit : FnScope ["relink", "host", "phase", "source", "goal", "bit", "at", "path", "cut", "is_fresh", "outwards"] ["relink", "host", "phase", "source", "goal", "bit"] (defScope s_forward_bit) := ⟨rfl, rfl, rfl, by decide +kernel, rfl, by decide +kernel, by decide +kernel⟩
abbrev s_end_bit : Stmt := top 21
theorem sc_end_bit : FnScope ["is_over_new_link", "may_cross"] ["is_over_new_link", "may_cross"] (defScope s_end_bit) := ⟨rfl, rfl, rfl, by decide +kernel, rfl, by decide +kernel, by decide +kernel⟩
abbrev s_forwards : Stmt := top 22
theorem sc_forwards : FnScope ["links", "source", "bit", "relink", "host", "phase", "goals", "bits", "goal", "sent"] ["links", "source", "bit", "relink", "host", "phase"] (defScope s_forwards) := ⟨rfl, rfl, rfl, by decide +kernel, rfl, by decide +kernel, by decide +kernel⟩
abbrev s_law_pot : Stmt := top 24
theorem sc_law_pot : FnScope ["_law_script", "_law_k", "_law_cell"] ["_law_script", "_law_k"] (defScope s_law_pot) := ⟨rfl, rfl, rfl, by decide +kernel, rfl, by decide +kernel, by decide +kernel⟩
abbrev s_law_draw : Stmt := top 25
theorem sc_law_draw : FnScope ["_law_pot_here", "_law_many", "_law_digit"] ["_law_pot_here", "_law_many"] (defScope s_law_draw) := ⟨rfl, rfl, rfl, by decide +kernel, rfl, by decide +kernel, by decide +kernel⟩
abbrev s_law_pick : Stmt := top 26
theorem sc_law_pick : FnScope ["_law_pot_here", "_law_some"] ["_law_pot_here", "_law_some"] (defScope s_law_pick) := ⟨rfl, rfl, rfl, by decide +kernel, rfl, by decide +kernel, by decide +kernel⟩
abbrev s_law_names : Stmt := top 27
theorem sc_law_names : FnScope ["_law_pot_here", "_law_many", "_law_letters", "_law_found", "_law_k", "_law_size", "_law_name", "_law_tries", "_law_time", "_law_letter", "_law_one"] ["_law_pot_here", "_law_many"] (defScope s_law_names) := ⟨rfl, rfl, rfl, by decide +kernel, rfl, by decide +kernel, by decide +kernel⟩
abbrev s_law_free_right : Stmt := top 28
theorem sc_law_free_right : FnScope ["_law_pot_here", "_law_ends", "_law_origin", "_law_due", "_law_kept", "_law_given", "_law_told", "_law_again", "_law_aim"] ["_law_pot_here"] (defScope s_law_free_right) := ⟨rfl, rfl, rfl, by decide +kernel, rfl, by decide +kernel, by decide +kernel⟩
abbrev s_law_relink_right : Stmt := top 29
theorem sc_law_relink_right : FnScope ["_law_pot_here", "_law_names_here", "_law_path", "_law_beside", "_law_ring", "_law_index", "_law_ends", "_law_who", "_law_stage", "_law_origin", "_law_mark", "_law_due", "_law_aim", "_law_sent", "_law_kept", "_law_told", "_law_early", "_law_plain"] ["_law_pot_here"] (defScope s_law_relink_right) := ⟨rfl, rfl, rfl, by decide +kernel, rfl, by decide +kernel, by decide +kernel⟩
abbrev s_law_error : Stmt := top 30
theorem sc_law_error : FnScope ["_law_ring", "_law_who", "_law_ends", "_law_way", "_law_told", "e"] ["_law_ring", "_law_who", "_law_ends", "_law_way"] (defScope s_law_error) := ⟨rfl, rfl, rfl, by decide +kernel, rfl, by decide +kernel, by decide +kernel⟩
abbrev s_law_refused_right : Stmt := top 31
theorem sc_law_refused_right : FnScope ["_law_pot_here", "_law_path", "_law_good", "_law_odd", "_law_bad", "_law_way", "_law_ends", "_law_thing"] ["_law_pot_here"] (defScope s_law_refused_right) := ⟨rfl, rfl, rfl, by decide +kernel, rfl, by decide +kernel, by decide +kernel⟩
abbrev s_law_right : Stmt := top 32
theorem sc_law_right : FnScope ["_law_pot_here"] ["_law_pot_here"] (defScope s_law_right) := ⟨rfl, rfl, rfl, by decide +kernel, rfl, by decide +kernel, by decide +kernel⟩
abbrev s_law : Stmt := top 33
theorem sc_law : FnScope ["_law_script", "_law_k"] ["_law_script"] (defScope s_law) := ⟨rfl, rfl, rfl, by decide +kernel, rfl, by decide +kernel, by decide +kernel⟩
end My

namespace My
open PySem PySem.Spec PyProof.Rows L2 Gy Xl Xs Xt
/-! ### the law's numbers: the pot, a draw, a pick -/
/-- the list of two numbers that is drawn from -/
def Rng (H : Hp) (r : Addr) : Prop := ∃ x y : Int, H r = some (.lst [.int x, .int y]) ∧ 0 ≤ x ∧ 0 ≤ y ∧ y < 1099511627776
theorem Rng.ne {H : Hp} {r l : Addr} (h : Rng H r) (hl : H l = none) : l ≠ r := fun z => by
  obtain ⟨x, y, e, _⟩ := h
  rw [← z, hl] at e
  cases e
theorem Rng.upd {H : Hp} {r l : Addr} {o : HO} (h : Rng H r) (hl : H l = none) : Rng (upd H l o) r := by
  obtain ⟨x, y, e, h2⟩ := id h
  exact ⟨x, y, by rw [upd_ne (h.ne hl).symm]; exact e, h2⟩
theorem Rng.upd2 {H : Hp} {r l : Addr} {o : HO} (h : Rng H r) (hl : l ≠ r) : Rng (L2.upd H l o) r := by
  obtain ⟨x, y, e, h2⟩ := id h
  exact ⟨x, y, by rw [upd_ne hl.symm]; exact e, h2⟩
theorem Rng.same {H H' : Hp} {r : Addr} (h : Rng H r) (s : Same H H') : Rng H' r := by
  obtain ⟨x, y, e, h2⟩ := h
  exact ⟨x, y, s _ _ e, h2⟩
section
variable {P : Program} {w : World} {K : PySem.W.Frag} {mg : Str → Option Value} {base : Heap}
def spPot (K : PySem.W.Frag) : Sp := fun vs H Q _ => ∃ (a : Addr) (ns : List Int) (k : Nat), vs = [.ref a, .int (k : Int)] ∧ SqL K H a (ns.map V.int) ∧ k ≤ 100 ∧
  ∀ H' p, Same H H' → H p = none → Rng H' p → Q (.ref p) H'
theorem max_nn (j : Int) : 0 ≤ (if j > 0 then j else 0) := by
  split <;> omega
theorem kk_lo (k : Nat) : 0 ≤ 61 * (k : Int) * (k : Int) := by
  have e : 61 * (k : Int) * (k : Int) = 61 * ((k * k : Nat) : Int) := by rw [Int.mul_assoc, Int.natCast_mul]
  omega
theorem kk_hi (k : Nat) (h : k ≤ 100) : 61 * (k : Int) * (k : Int) ≤ 610000 := by
  have e : 61 * (k : Int) * (k : Int) = 61 * ((k * k : Nat) : Int) := by rw [Int.mul_assoc, Int.natCast_mul]
  have m : k * k ≤ 100 * 100 := Nat.mul_le_mul h h
  omega
theorem pot_small (c : Int) (k : Nat) (h : k ≤ 100) : (c % 2147483563 + 61 * (k : Int) * (k : Int) + 17).natAbs < 2 ^ 64 := by
  have a := kk_lo k
  have b := kk_hi k h
  have d := Int.emod_nonneg c (by decide : (2147483563 : Int) ≠ 0)
  have e := Int.emod_lt_of_pos c (by decide : (0 : Int) < 2147483563)
  have f : (2 : Nat) ^ 64 = 18446744073709551616 := by decide
  omega
theorem pot_lo (z : Int) : 0 ≤ z % 2147483549 + 1 := by omega
theorem pot_hi (z : Int) : z % 2147483549 + 1 < 1099511627776 := by omega
theorem ok_pot {f : Addr} {fd : FuncData} (F : Fun K "_law_pot" "_law_pot" s_law_pot f fd) (Y : Bn mg) : FnOk P w K mg base CX0 1 f fd ["_law_script", "_law_k"] (spPot K) := by
  refine F.ok sc_law_pot (fun vs H Q E h => ?_) (fun cdv A outer s H vs Q E hr h => ?_)
  · obtain ⟨a, ns, k, rfl, _⟩ := h
    rfl
  · obtain ⟨a, ns, k, rfl, hS, hk, q⟩ := h
    refine ⟨_, (pss_cons (ps_set (i := 2) sc_law_pot.nd rfl (.inl rfl) (pe_ifExp (pt_cmpR op_lt (pv 1) (pe_callB call_len_seq (by rfl) Y.len PySem.boot_len (pa_cons (pv 0) pa_nil)) (nomark _)) (pe_callB call_abs (by rfl) Y.abs (by decide +kernel) (pa_cons (pe_ix ix_list (pv 0) (pv 1) (fun _ _ => rfl)) pa_nil)) pe_int))
 (pss_one (ps_ret (pe_lst (pa_cons (pe_callB (call_max2 rfl) (by rfl) Y.max (by decide +kernel) (pa_cons pe_int (pa_cons (pe_op op_sub (pv 2) (pe_op op_pow pe_int pe_int)) pa_nil))) (pa_cons (pe_op op_add (pe_op op_mod (pe_op op_pow (pe_op op_add (pe_op op_add (pe_op op_mod (pv 2) pe_int) (pe_op op_mul (pe_op op_mul pe_int (pv 1)) (pv 1))) pe_int) pe_int) pe_int) pe_int) pa_nil)))))), ?_⟩
    refine ⟨_, rfl, _, rfl, a, _, rfl, .inl hS, _, _, rfl, rfl, _, rfl, ite2 (fun c1 => ?A) (fun c1 => ?B)⟩
    case' A =>
      have hk2 : k < ns.length := by
        have := of_decide_eq_true c1
        rw [List.length_map] at this
        omega
      refine ⟨_, rfl, _, rfl, a, _, _, .int ns[k], rfl, rfl, hS, atI_nat (j := k) (by rw [List.getElem?_map, List.getElem?_eq_getElem hk2]; rfl), ?_⟩
      refine ⟨_, rfl, ?_⟩
    all_goals
      refine ⟨_, rfl, 10, 18, rfl, rfl, ⟨by decide, by decide, by decide⟩, _, _, rfl, rfl, 0, _, rfl, ?_⟩
      refine ⟨_, rfl, _, _, rfl, rfl, (by decide : (0 : Int) < 2147483563), _, rfl, 61, _, rfl, rfl, .inl ⟨by decide, by decide⟩, _, rfl, _, _, rfl, rfl, .inl ⟨by omega, by omega⟩, _, _, rfl, rfl, _, _, rfl, rfl, ?_⟩
      refine ⟨_, 3, rfl, rfl, ⟨by decide, by decide, pot_small _ k hk⟩, _, _, rfl, rfl, (by decide : (0 : Int) < 2147483549), _, _, rfl, rfl, ?_⟩
      refine ⟨(by show 2 ≤ sizeLine; decide), fun p hp => ?_⟩
      exact q _ p (same_upd hp) hp ⟨_, _, upd_same, max_nn _, pot_lo _, pot_hi _⟩
def spDraw : Sp := fun vs H Q _ => ∃ (r : Addr) (m : Int), vs = [.ref r, .int m] ∧ Rng H r ∧ 0 < m ∧ m < 1180591620717411303424 ∧
  ∀ H' d, But r H H' → Rng H' r → 0 ≤ d → d < m → Q (.int d) H'
theorem lg70 {m : Int} (m0 : 0 < m) (m1 : m < 1180591620717411303424) : m.natAbs.log2 < 9000 := by
  have h : m.natAbs < 2 ^ 70 := by
    show m.natAbs < 1180591620717411303424
    omega
  exact Nat.lt_of_lt_of_le ((Nat.log2_lt (by omega)).mpr h) (by decide)
theorem ok_draw {f : Addr} {fd : FuncData} (F : Fun K "_law_draw" "_law_draw" s_law_draw f fd) (Y : Bn mg) : FnOk P w K mg base CX0 1 f fd ["_law_pot_here", "_law_many"] spDraw := by
  refine F.ok sc_law_draw (fun vs H Q E h => ?_) (fun cdv A outer s H vs Q E hr h => ?_)
  · obtain ⟨r, m, rfl, _⟩ := h
    rfl
  · obtain ⟨r, m, rfl, ⟨x, y, hR, x0, y0, y1⟩, m0, m1, q⟩ := h
    refine ⟨_, (pss_cons (ps_if (pt_cmpR op_gt (pe_ix ix_list (pv 0) pe_int (fun _ _ => rfl)) pe_int (nomark _))
 (pss_cons (ps_asg (pe_callB call_divmodW (by rfl) Y.divmod (by decide +kernel) (pa_cons (pe_ix ix_list (pv 0) pe_int (fun _ _ => rfl)) (pa_cons (pv 1) pa_nil))) (pg_tup (by rfl) (pgs_cons (pg_sub (pv 0) pe_int set_list) (pgs_cons (pg_name (i := 2) sc_law_draw.nd rfl (Or.inl rfl)) pgs_nil))))
 (pss_one (ps_ret (pv 2))))
 pss_nil)
 (pss_cons (ps_asg (pe_op op_mod (pe_op op_add (pe_op op_mul (pe_ix ix_list (pv 0) pe_int (fun _ _ => rfl)) pe_int) pe_int) pe_int) (pg_sub (pv 0) pe_int set_list))
 (pss_one (ps_ret (pe_op op_mod (pe_op op_fdiv (pe_op op_mod (pe_op op_mul (pe_ix ix_list (pv 0) pe_int (fun _ _ => rfl)) (pe_ix ix_list (pv 0) pe_int (fun _ _ => rfl))) pe_int) pe_int) (pv 1)))))), ?_⟩
    refine ⟨_, rfl, r, _, 0, .int x, rfl, rfl, SqL.of hR, atI_nat (j := 0) rfl, _, _, rfl, rfl, _, rfl, ite2 (fun c1 => ?_) (fun c1 => ?_)⟩
    · refine ⟨_, rfl, r, _, 0, .int x, rfl, rfl, SqL.of hR, atI_nat (j := 0) rfl, _, rfl, x, m, rfl, ⟨m0, PyProof.noPylong_of_log2 (lg70 m0 m1)⟩, fun p hp => ?_⟩
      have npr : r ≠ p := ne_of_none hR hp
      refine ⟨p, _, rfl, SqT.of upd_same, rfl, _, _, rfl, ?_⟩
      refine ⟨_, rfl, r, _, 0, 0, rfl, rfl, (by rw [upd_ne npr]; exact hR), rfl, ?_⟩
      refine ⟨_, _, rfl, rfl, ?_⟩
      refine ⟨_, rfl, q _ _ ?_ ⟨x / m, y, upd_same, Int.ediv_nonneg x0 (Int.le_of_lt m0), y0, y1⟩ (Int.emod_nonneg _ (by omega)) (Int.emod_lt_of_pos _ m0)⟩
      intro b o nb e
      rw [upd_ne nb, upd_ne (ne_of_none e hp)]
      exact e
    · refine ⟨_, rfl, r, _, 1, .int y, rfl, rfl, SqL.of hR, atI_nat (j := 1) rfl, y, 48271, rfl, rfl, .inl ⟨by omega, by omega⟩, _, _, rfl, rfl, _, _, rfl, rfl, (by decide : (0 : Int) < 2147483587), ?_⟩
      refine ⟨_, rfl, r, _, 1, 1, rfl, rfl, hR, rfl, ?_⟩
      have z0 := Int.emod_nonneg (y * 48271 + 30011) (by decide : (2147483587 : Int) ≠ 0)
      have z1 := Int.emod_lt_of_pos (y * 48271 + 30011) (by decide : (0 : Int) < 2147483587)
      refine ⟨_, rfl, r, _, 1, _, rfl, rfl, SqL.of upd_same, atI_nat (j := 1) rfl, _, rfl, r, _, 1, _, rfl, rfl, SqL.of upd_same, atI_nat (j := 1) rfl, _, _, rfl, rfl, .inl ⟨by omega, by omega⟩, ?_⟩
      refine ⟨_, _, rfl, rfl, (by decide : (0 : Int) < 2147483543), _, 13, rfl, rfl, ⟨by decide, by decide⟩, _, rfl, _, m, rfl, rfl, m0, ?_⟩
      refine q _ _ ?_ ⟨x, _, upd_same, x0, z0, by omega⟩ (Int.emod_nonneg _ (by omega)) (Int.emod_lt_of_pos _ m0)
      intro b o nb e
      rw [upd_ne nb]
      exact e
theorem ix_or {X : Cx} {r r' : R2} (h : IxR X r) (h' : IxR X r') : IxR X (fun x y H Q => r x y H Q ∨ r' x y H Q) := by
  intro value slice pins s σ H x y v u Q I rx ry q hs
  rcases q with q | q
  · exact h value slice pins s σ H x y v u Q I rx ry q hs
  · exact h' value slice pins s σ H x y v u Q I rx ry q hs
/-- a sign of a text, or an item of a list -/
def spPick (K : PySem.W.Frag) : Sp := fun vs H Q _ => ∃ (r : Addr) (v : V), vs = [.ref r, v] ∧ Rng H r ∧
  ((∃ x : Str, v = .str x ∧ 0 < x.length ∧ x.length ≤ 1000 ∧ ∀ H' c, But r H H' → Rng H' r → c ∈ x.cps.toList → Q (.str ⟨#[c]⟩) H') ∨
   (∃ a xs, v = .ref a ∧ a ≠ r ∧ H a = some (.lst xs) ∧ 0 < xs.length ∧ xs.length ≤ 1000 ∧ ∀ H' u, But r H H' → Rng H' r → u ∈ xs → Q u H'))
theorem ok_pick {f : Addr} {fd : FuncData} (F : Fun K "_law_pick" "_law_pick" s_law_pick f fd) (Y : Bn mg) (G_law_draw : Fk P w K mg base CX0 1 "_law_draw" ["_law_pot_here", "_law_many"] spDraw) :
    FnOk P w K mg base CX0 2 f fd ["_law_pot_here", "_law_some"] (spPick K) := by
  refine F.ok sc_law_pick (fun vs H Q E h => ?_) (fun cdv A outer s H vs Q E hr h => ?_)
  · obtain ⟨r, v, rfl, _⟩ := h
    rfl
  · obtain ⟨r, v, rfl, R, h⟩ := h
    refine ⟨_, (pss_one (ps_ret (pe_ix (ix_or ix_str ix_list) (pv 1) (pe_callF G_law_draw (hr.mono (by decide)) (by rfl) pass0 (pa_cons (pv 0) (pa_cons (pe_callB (CallR.or call_len_str call_len_seq) (by rfl) Y.len PySem.boot_len (pa_cons (pv 1) pa_nil)) pa_nil))) (fun _ _ => rfl)))), ?_⟩
    rcases h with ⟨x, rfl, l0, l1, q⟩ | ⟨a, xs, rfl, na, ha, l0, l1, q⟩
    · refine ⟨_, rfl, _, rfl, _, rfl, .inl ⟨x, rfl, Nat.le_trans l1 (by decide), ?_⟩⟩
      refine ⟨r, (x.length : Int), rfl, R, by omega, by omega, fun H1 d b1 R1 d0 d1 => ?_⟩
      have el : x.cps.toList.length = x.length := by rw [Array.length_toList]; rfl
      obtain ⟨c, hc, mc⟩ := at_in (xs := x.cps.toList) d0 (by rw [el]; exact d1)
      exact .inl ⟨x, d, c, rfl, rfl, Nat.le_trans l1 (by decide), hc, q _ _ b1 R1 mc⟩
    · refine ⟨_, rfl, _, rfl, _, rfl, .inr ⟨a, xs, rfl, .inl (SqL.of ha), ?_⟩⟩
      refine ⟨r, (xs.length : Int), rfl, R, by omega, by omega, fun H1 d b1 R1 d0 d1 => ?_⟩
      obtain ⟨c, hc, mc⟩ := at_in (xs := xs) d0 d1
      exact .inr ⟨a, xs, d, c, rfl, rfl, SqL.of (b1 a _ na ha), hc, q _ _ b1 R1 mc⟩
end
end My

namespace My
open PySem PySem.Spec PyProof.Rows L2 Gy Xl Xs Xt
/-! ### drawn host names: texts of 1 to 8 letters, all different -/
def LET : Str := "abcdefghijklmnopqrstuvwxyz"
/-- a text of 1 to 8 letters -/
def Nm (x : Str) : Prop := 1 ≤ x.length ∧ x.length ≤ 8 ∧ ∀ c ∈ x.cps.toList, c ∈ LET.cps.toList
theorem mem_cat {a b : Str} {c : Nat} (h : c ∈ (a ++ b).cps.toList) : c ∈ a.cps.toList ∨ c ∈ b.cps.toList := by
  have e : (a ++ b).cps.toList = a.cps.toList ++ b.cps.toList := by
    show (a.cps ++ b.cps).toList = _
    rw [Array.toList_append]
  rw [e] at h
  exact List.mem_append.mp h
theorem join_in {p : Nat → Prop} : ∀ ys : List Str, (∀ y ∈ ys, ∀ c ∈ y.cps.toList, p c) → ∀ c ∈ (Str.join "" ys).cps.toList, p c
  | [], _, c, h => by
    have h' : c ∈ ([] : List Nat) := h
    cases h'
  | [y], h, c, hc => h y List.mem_cons_self c hc
  | y :: z :: r, h, c, hc => by
    have hc' : c ∈ (y ++ "" ++ Str.join "" (z :: r)).cps.toList := hc
    rcases mem_cat hc' with hc' | hc'
    · rcases mem_cat hc' with hc' | hc'
      · exact h y List.mem_cons_self c hc'
      · have h' : c ∈ ([] : List Nat) := hc'
        cases h'
    · exact join_in (z :: r) (fun u hu => h u (List.mem_cons_of_mem _ hu)) c hc'
theorem join_len : ∀ ys : List Str, (∀ y ∈ ys, y.length = 1) → (Str.join "" ys).length = ys.length
  | [], _ => rfl
  | [y], h => h y List.mem_cons_self
  | y :: z :: r, h => by
    have ih := join_len (z :: r) fun u hu => h u (List.mem_cons_of_mem _ hu)
    have hy := h y List.mem_cons_self
    show (y ++ "" ++ Str.join "" (z :: r)).length = _
    rw [strLen_append, strLen_append, ih, hy]
    show 1 + 0 + (r.length + 1) = r.length + 1 + 1
    omega
theorem sum_ones : ∀ ys : List Str, (∀ y ∈ ys, y.length = 1) → (ys.map (·.length)).sum ≤ ys.length
  | [], _ => Nat.le_refl _
  | y :: r, h => by
    have h1 := h y List.mem_cons_self
    have h2 := sum_ones r fun z hz => h z (List.mem_cons_of_mem _ hz)
    rw [List.map_cons, List.sum_cons, List.length_cons]
    omega
theorem cut_some (x : Str) (n : Nat) : cutS x none (some (n : Int)) = ⟨(x.cps.toList.take (min n x.length)).toArray⟩ := by
  unfold cutS
  rw [HT.sIx_none, HT.sIx_nat, List.drop_zero, Nat.sub_zero]
/-- the first eight signs of a name with letters behind it -/
theorem nm_cut {x y : Str} (hx : Nm x) (hy : Nm y) : Nm (cutS (x ++ y) none (some 8)) := by
  have e := cut_some (x ++ y) 8
  have l : (x ++ y).length = x.length + y.length := strLen_append x y
  have l2 : (x ++ y).cps.toList.length = (x ++ y).length := Array.length_toList
  obtain ⟨h1, h2, h3⟩ := hx
  obtain ⟨k1, k2, k3⟩ := hy
  rw [show (some 8 : Option Int) = some ((8 : Nat) : Int) from rfl, e]
  refine ⟨?_, ?_, fun c hc => ?_⟩
  · show 1 ≤ ((x ++ y).cps.toList.take (min 8 (x ++ y).length)).toArray.size
    rw [List.size_toArray, List.length_take]
    omega
  · show ((x ++ y).cps.toList.take (min 8 (x ++ y).length)).toArray.size ≤ 8
    rw [List.size_toArray, List.length_take]
    omega
  · have hc' : c ∈ (x ++ y).cps.toList.take (min 8 (x ++ y).length) := by
      simpa using hc
    rcases mem_cat (List.mem_of_mem_take hc') with z | z
    · exact h3 c z
    · exact k3 c z
/-- seven signs of a name and a letter -/
def tl (x : Str) (c : Nat) : Str := cutS x none (some 7) ++ ⟨#[c]⟩
theorem tl_cps (x : Str) (c : Nat) : (tl x c).cps.toList = x.cps.toList.take (min 7 x.length) ++ [c] := by
  unfold tl
  rw [show (some 7 : Option Int) = some ((7 : Nat) : Int) from rfl, cut_some]
  show ((x.cps.toList.take (min 7 x.length)).toArray ++ #[c]).toList = _
  rw [Array.toList_append]
theorem tl_nm {x : Str} {c : Nat} (hx : Nm x) (hc : c ∈ LET.cps.toList) : Nm (tl x c) := by
  have e := tl_cps x c
  have l : (tl x c).length = (tl x c).cps.toList.length := Array.length_toList.symm
  have l2 : x.cps.toList.length = x.length := Array.length_toList
  have l3 : (x.cps.toList.take (min 7 x.length) ++ [c]).length = min 7 x.length + 1 := by
    rw [List.length_append, List.length_take, l2]
    simp
  rw [e, l3] at l
  refine ⟨by omega, by omega, fun d hd => ?_⟩
  rw [e] at hd
  rcases List.mem_append.mp hd with z | z
  · exact hx.2.2 d (List.mem_of_mem_take z)
  · rw [List.mem_singleton.mp z]
    exact hc
theorem tl_inj (x : Str) (c d : Nat) (h : tl x c = tl x d) : c = d := by
  have e : (tl x c).cps.toList = (tl x d).cps.toList := by rw [h]
  rw [tl_cps, tl_cps] at e
  have e2 := List.append_cancel_left e
  injection e2
theorem inV_strs (z : Str) : ∀ xs : List Str, inV (.str z) (xs.map V.str) = decide (z ∈ xs)
  | [] => rfl
  | x :: xs => by
    have ih := inV_strs z xs
    unfold inV at ih ⊢
    rw [List.map_cons, List.any_cons, ih]
    show (x == z || decide (z ∈ xs)) = decide (z ∈ x :: xs)
    by_cases e : x = z
    · subst e
      simp
    · rw [beq_eq_false_iff_ne.mpr e, Bool.false_or]
      congr 1
      rw [List.mem_cons, eq_iff_iff]
      exact ⟨.inr, fun h => h.resolve_left fun u => e u.symm⟩
theorem flat_strs : ∀ xs : List Str, (xs.map V.str).all flatV = true
  | [] => rfl
  | x :: xs => by
    rw [List.map_cons, List.all_cons, flat_strs xs]
    rfl
theorem len_le_of_sub {α : Type} [BEq α] [LawfulBEq α] : ∀ {l m : List α}, l.Nodup → (∀ x ∈ l, x ∈ m) → l.length ≤ m.length
  | [], _, _, _ => Nat.zero_le _
  | x :: l, m, nd, h => by
    rw [List.nodup_cons] at nd
    have hx := h x List.mem_cons_self
    have ih := len_le_of_sub (l := l) (m := m.erase x) nd.2 fun y hy => (List.mem_erase_of_ne (fun e : y = x => nd.1 (by rw [← e]; exact hy))).mpr (h y (List.mem_cons_of_mem _ hy))
    rw [List.length_erase_of_mem hx] at ih
    have : 0 < m.length := List.length_pos_of_mem hx
    rw [List.length_cons]
    omega
theorem nd_map {α β : Type} {f : α → β} (inj : ∀ a b, f a = f b → a = b) : ∀ {l : List α}, l.Nodup → (l.map f).Nodup
  | [], _ => List.nodup_nil
  | x :: l, h => by
    rw [List.nodup_cons] at h
    rw [List.map_cons, List.nodup_cons]
    refine ⟨fun z => ?_, nd_map inj h.2⟩
    obtain ⟨y, hy, e⟩ := List.mem_map.mp z
    exact h.1 (inj _ _ e ▸ hy)
theorem nodup_snoc {α : Type} {xs : List α} {x : α} (h : xs.Nodup) (n : x ∉ xs) : (xs ++ [x]).Nodup := by
  rw [List.nodup_append]
  refine ⟨h, by simp, fun a ha b hb e => n ?_⟩
  rw [List.mem_singleton.mp hb] at e
  rw [← e]
  exact ha
/-- what is tried for a name -/
def triesOf (x : Str) : List Str := x :: LET.cps.toList.map (tl x)
theorem tries_nm {x : Str} (h : Nm x) : ∀ y ∈ triesOf x, Nm y := fun y hy => by
  rcases List.mem_cons.mp hy with rfl | hy
  · exact h
  · obtain ⟨c, hc, rfl⟩ := List.mem_map.mp hy
    exact tl_nm h hc
theorem tries_out {x : Str} {xs : List Str} (h : xs.length < 26) : ∃ z zs, (triesOf x).filter (fun y => decide (y ∉ xs)) = z :: zs := by
  cases e : (triesOf x).filter (fun y => decide (y ∉ xs)) with
  | cons z zs => exact ⟨z, zs, rfl⟩
  | nil =>
    rw [List.filter_eq_nil_iff] at e
    have nd : (LET.cps.toList.map (tl x)).Nodup := nd_map (tl_inj x) (by decide +kernel)
    have le := len_le_of_sub (m := xs) nd fun y hy => by
      have z := e y (List.mem_cons_of_mem _ hy)
      exact Decidable.of_not_not fun w => z (decide_eq_true w)
    rw [List.length_map, show LET.cps.toList.length = 26 by decide +kernel] at le
    omega
theorem dps_strs {K : PySem.W.Frag} {H : Hp} : ∀ xs : List Str, DpAll K H (xs.map V.str) (xs.map PyData.str)
  | [] => .nil
  | x :: xs => .cons (.str x) (dps_strs xs)
theorem nm_ok {x : Str} (h : Nm x) : PyData.strOk x = true := by
  unfold PyData.strOk
  rw [← Array.all_toList, List.all_eq_true]
  intro c hc
  have z : ∀ d ∈ LET.cps.toList, d < 0x110000 := by decide +kernel
  exact decide_eq_true (z c (h.2.2 c hc))
theorem lay_strs : ∀ xs : List Str, (∀ x ∈ xs, Nm x) → PyData.canLayAll0 (xs.map PyData.str) = true
  | [], _ => rfl
  | b :: r, h => by
    show (PyData.strOk b && PyData.canLayAll0 (r.map PyData.str)) = true
    rw [nm_ok (h b List.mem_cons_self), lay_strs r fun x hx => h x (List.mem_cons_of_mem _ hx)]
    rfl
theorem deep_strs : ∀ xs : List Str, PyData.depthAll (xs.map PyData.str) = 0
  | [] => rfl
  | b :: r => by
    show max 0 (PyData.depthAll (r.map PyData.str)) = 0
    rw [deep_strs r]
    rfl
theorem sh_strs (xs : List Str) (h : ∀ x ∈ xs, Nm x) : SeqAt.shaped (.list (xs.map PyData.str)) = true := by
  unfold SeqAt.shaped
  rw [show PyData.canLay0 (.list (xs.map PyData.str)) = true from lay_strs xs h, show PyData.depth (.list (xs.map PyData.str)) = 1 by show PyData.depthAll _ + 1 = 1; rw [deep_strs]]
  decide
section
variable {P : Program} {w : World} {K : PySem.W.Frag} {mg : Str → Option Value} {base : Heap}
def spNames : Sp := fun vs H Q _ => ∃ (r : Addr) (n : Nat), vs = [.ref r, .int (n : Int)] ∧ Rng H r ∧ n ≤ 20 ∧
  ∀ (H' : Hp) (L : Addr) (xs : List Str), But r H H' → Rng H' r → H L = none → H' L = some (.lst (xs.map V.str)) → xs.length = n → (∀ x ∈ xs, Nm x) → xs.Nodup → Q (.ref L) H'
theorem ok_names {f : Addr} {fd : FuncData} (F : Fun K "_law_names" "_law_names" s_law_names f fd) (Y : Bn mg)
    (G_law_draw : Fk P w K mg base CX0 1 "_law_draw" ["_law_pot_here", "_law_many"] spDraw) (G_law_pick : Fk P w K mg base CX0 2 "_law_pick" ["_law_pot_here", "_law_some"] (spPick K)) :
    FnOk P w K mg base CX0 3 f fd ["_law_pot_here", "_law_many"] spNames := by
  refine F.ok sc_law_names (fun vs H Q E h => ?_) (fun cdv A outer s H vs Q E hr h => ?_)
  · obtain ⟨r, n, rfl, _⟩ := h
    rfl
  · obtain ⟨r, n, rfl, hR, n20, q⟩ := h
    have hu64 := hr.units
    refine ⟨_, (pss_cons (ps_set (i := 2) sc_law_names.nd rfl (.inr rfl) pe_str)
 (pss_cons (ps_set (i := 3) sc_law_names.nd rfl (.inr rfl) (pe_lst pa_nil))
 (pss_cons (ps_for PassesOwn.never rfl (pi_range1 (by rfl) Y.range (pa_cons (pv 1) pa_nil)) (pg_name (i := 4) sc_law_names.nd rfl (Or.inl rfl))
 (pss_cons (ps_set (i := 5) sc_law_names.nd rfl (.inl rfl) (pe_ix ix_list (pe_lst (pa_cons pe_int (pa_cons pe_int (pa_cons pe_int (pa_cons pe_int pa_nil))))) (pe_callF G_law_draw (hr.mono (by decide)) (by rfl) pass0 (pa_cons (pv 0) (pa_cons pe_int pa_nil))) (fun _ _ => rfl)))
 (pss_cons (ps_set (i := 6) sc_law_names.nd rfl (.inr rfl) (pe_join pe_str (pe_lc (own := [("_law_time", 8)]) (g := gName 8) (tt := tYes) rfl sc_law_names.nd (pi_range1 (by rfl) Y.range (pa_cons (pv 5) pa_nil)) (blkOk_by (N := ["_law_pot_here", "_law_many", "_law_letters", "_law_found", "_law_k", "_law_size", "_law_name", "_law_tries", "_law_time", "_law_letter", "_law_one"]) (sc := defScope s_law_names) (by decide +kernel)) (fun _ _ _ _ _ => (pg_name (i := 8) sc_law_names.nd rfl (Or.inl rfl))) (fun _ _ _ _ _ => pts_nil) (fun _ _ _ _ _ => (pe_callF G_law_pick (hr.mono (by decide)) (by rfl) pass0 (pa_cons (pv 0) (pa_cons (pv 2) pa_nil)))))))
 (pss_cons (ps_if (PW.pt (pw_and (pt_cmpR (op_neD hu64) (pv 3) (pe_lst pa_nil) (nomark _)) (pw_and1 (pt_cmpR op_eq (pe_callF G_law_draw (hr.mono (by decide)) (by rfl) pass0 (pa_cons (pv 0) (pa_cons pe_int pa_nil))) pe_int (nomark _)))))
 (pss_one (ps_set (i := 6) sc_law_names.nd rfl (.inr rfl) (pe_slice sl_str (pe_op op_add_str (pe_ix ix_list (pv 3) (pe_un un_neg pe_int) (fun _ _ => rfl)) (pv 6)) po_none (po_some pe_int))))
 pss_nil)
 (pss_cons (ps_set (i := 7) sc_law_names.nd rfl (.inl rfl) (pe_op op_cat (pe_lst (pa_cons (pv 6) pa_nil)) (pe_lc (own := [("_law_letter", 9)]) (g := gName 9) (tt := tYes) rfl sc_law_names.nd (pi_str (pv 2)) (blkOk_by (N := ["_law_pot_here", "_law_many", "_law_letters", "_law_found", "_law_k", "_law_size", "_law_name", "_law_tries", "_law_time", "_law_letter", "_law_one"]) (sc := defScope s_law_names) (by decide +kernel)) (fun _ _ _ _ _ => (pg_name (i := 9) sc_law_names.nd rfl (Or.inl rfl))) (fun _ _ _ _ _ => pts_nil) (fun _ _ _ _ _ => (pe_op op_add_str (pe_slice sl_str (pv 6) po_none (po_some pe_int)) (pv 9))))))
 (pss_one (ps_expr (pe_bm PySem.F.plainAttrs_list PySem.F.slot_list_append PySem.F.type_list_append mt_append (pv 3) (pa_cons (pe_ix ix_list (pe_lc (own := [("_law_one", 10)]) (g := gName 10) (tt := tTest (tOp (rIn K true) (tVar 10) (tVar 3))) rfl sc_law_names.nd (pi_list (pv 7)) (blkOk_by (N := ["_law_pot_here", "_law_many", "_law_letters", "_law_found", "_law_k", "_law_size", "_law_name", "_law_tries", "_law_time", "_law_letter", "_law_one"]) (sc := defScope s_law_names) (by decide +kernel)) (fun _ _ _ _ _ => (pg_name (i := 10) sc_law_names.nd rfl (Or.inl rfl))) (fun _ _ _ _ _ => (pts_one (pt_cmpR op_notIn_seq (pv 10) (pv 3) rfl))) (fun _ _ _ _ _ => (pv 10))) pe_int (fun _ _ => rfl)) pa_nil)))))))))
 (pss_one (ps_ret (pv 3)))))), ?_⟩
    refine ⟨Nat.zero_le _, fun L hL0 => ?_⟩
    have nL : L ≠ r := hR.ne hL0
    refine ⟨_, rfl, (n : Int), rfl, by omega, by omega, ?_⟩
    refine for_it (walk_range (lo := 0) (n := ((n : Int) - 0).toNat)) (fun i σ H' => (∃ a b c d e f g, σ = [some (.ref r), some (.int (n : Int)), some (.str LET), some (.ref L), a, b, c, d, e, f, g]) ∧ But r H H' ∧ Rng H' r ∧
        ∃ xs : List Str, H' L = some (.lst (xs.map V.str)) ∧ xs.length = i ∧ (∀ x ∈ xs, Nm x) ∧ xs.Nodup)
      ⟨⟨_, _, _, _, _, _, _, rfl⟩, But.of (same_upd hL0), hR.upd hL0, [], upd_same, rfl, (fun _ z => nomatch z), List.nodup_nil⟩ (fun _ _ _ _ _ => trivial) ?_ ?_
    · rintro i y σ H1 H2 hi ⟨⟨a, b, c, d, e, f, g, rfl⟩, b1, R1, xs, hL, el, nm, nd⟩ ⟨rfl, rfl⟩
      have i20 : i < 20 := by omega
      -- the size
      refine ⟨(by show 4 ≤ sizeLine; decide), fun l hl => ?_⟩
      refine ⟨_, rfl, r, 4, rfl, R1.upd hl, by decide, by decide, fun H3 d3 b3 R3 d30 d31 => ?_⟩
      have nl : l ≠ r := R1.ne hl
      have hl3 := b3 l _ nl upd_same
      have hL3 := b3 L _ nL (same_upd hl L _ hL)
      have b03 : But r H H3 := b1.trans ((But.of (same_upd hl)).trans b3)
      obtain ⟨v, hv, mv⟩ := at_in (xs := [_, _, _, _]) d30 d31
      refine ⟨l, _, d3, v, rfl, rfl, SqL.of hl3, hv, ?_⟩
      have sz : ∃ m : Nat, v = .int (m : Int) ∧ 1 ≤ m ∧ m ≤ 8 := by
        simp only [List.mem_cons, List.not_mem_nil, or_false] at mv
        rcases mv with rfl | rfl | rfl | rfl
        · exact ⟨1, rfl, by decide, by decide⟩
        · exact ⟨1, rfl, by decide, by decide⟩
        · exact ⟨2, rfl, by decide, by decide⟩
        · exact ⟨8, rfl, by decide, by decide⟩
      clear mv hv hl3
      obtain ⟨m, rfl, m1, m8⟩ := sz
      -- the letters
      refine ⟨⟨_, rfl⟩, _, rfl, (m : Int), rfl, by omega, by omega, fun D hD => ?_⟩
      have nD : D ≠ r := R3.ne hD
      refine lc_it (walk_range (lo := 0) (n := ((m : Int) - 0).toNat)) (fun i H' => But r H3 H' ∧ Rng H' r ∧ ∃ ys : List Str, H' D = some (.lst (ys.map V.str)) ∧ ys.length = i ∧ (∀ y ∈ ys, y.length = 1) ∧ ∀ y ∈ ys, ∀ c ∈ y.cps.toList, c ∈ LET.cps.toList)
        ⟨But.of (same_upd hD), R3.upd hD, [], upd_same, rfl, (fun y z => nomatch z), fun y z => nomatch z⟩ (fun _ _ _ _ => trivial) ?_ ?_
      · rintro j y H4 H5 hj ⟨b4, R4, ys, hY, yl, y1, y2⟩ ⟨rfl, rfl⟩
        refine ⟨rfl, ?_⟩
        dsimp only [tYes]
        refine iteT ?_
        refine ⟨_, rfl, _, rfl, r, _, rfl, R4, .inl ⟨LET, rfl, by decide +kernel, by decide +kernel, fun H6 c b6 R6 mc => ?_⟩⟩
        refine ⟨_, b6 D _ nD hY, ?_, ?_, ?_, ys ++ [⟨#[c]⟩], ?_, ?_, ?_, ?_⟩
        · rw [List.length_map, yl]
          exact small200 (by omega)
        · exact (b4.trans b6).upd hD
        · exact R6.upd2 nD
        · rw [upd_same, List.map_append]
          rfl
        · rw [List.length_append, yl]
          rfl
        · intro y hy'
          rcases List.mem_append.mp hy' with z | z
          · exact y1 y z
          · rw [List.mem_singleton.mp z]
            rfl
        · intro y hy'
          rcases List.mem_append.mp hy' with z | z
          · exact y2 y z
          · rw [List.mem_singleton.mp z]
            intro c' hc'
            have hc2 : c' ∈ [c] := hc'
            rw [List.mem_singleton.mp hc2]
            exact mc
      rintro H4 ⟨b4, R4, ys, hY, yl, y1, y2⟩
      refine ⟨"", D, ys, rfl, rfl, .inl (SqL.of hY), ?_, ?_⟩
      · have e1 : (ys.map (·.length)).sum ≤ ys.length := sum_ones ys y1
        show (ys.map (·.length)).sum + ys.length * 0 ≤ 16777216
        omega
      rw [TL.join_eq]
      have nm0 : Nm (Str.join "" ys) := by
        have := join_len ys y1
        exact ⟨by omega, by omega, join_in ys y2⟩
      generalize Str.join "" ys = x0 at nm0 ⊢
      have hL4 := b4 L _ nL hL3
      have b04 := b03.trans b4
      clear b4 y1 y2 hY yl
      -- behind an earlier name
      refine ⟨_, rfl, Nat.zero_le _, fun l2 hl2 => ?_⟩
      refine ⟨_, _, .lst (SqL.of (same_upd hl2 L _ hL4)) (dps_strs xs), .lst (SqL.of upd_same) .nil, sh_strs xs nm, rfl, _, rfl, ite2 (fun c3 => ?E) (fun c3 => ?G)⟩
      case' E =>
        refine ⟨_, rfl, r, 4, rfl, R4.upd hl2, by decide, by decide, fun H5 k b5 R5 k0 k1 => ?_⟩
        have b05 : But r H H5 := b04.trans ((But.of (same_upd hl2)).trans b5)
        have hL5 := b5 L _ nL (same_upd hl2 L _ hL4)
        refine ⟨rfl, _, rfl, ite2 (fun c4 => ?E1) (fun c4 => ?E2)⟩
        case' E1 =>
          obtain ⟨xs1, xl, ex⟩ : ∃ xs1 xl, xs = xs1 ++ [xl] := by
            cases xs with
            | nil => exact absurd c3 (by decide)
            | cons x t => exact ⟨_, _, (List.dropLast_concat_getLast (l := x :: t) (by simp)).symm⟩
          have nl := nm xl (by rw [ex]; exact List.mem_append_right _ List.mem_cons_self)
          have nm1 := nm_cut nl nm0
          refine ⟨_, rfl, 1, rfl, L, _, -1, .str xl, rfl, rfl, SqL.of hL5, (by rw [ex, List.map_append]; exact atI_last _ _), _, rfl, xl, x0, rfl, rfl, (by have := nl.2.1; have := nm0.2.1; exact le200 (by omega)), 8, rfl, _, rfl, (by have := nl.2.1; have := nm0.2.1; rw [strLen_append]; exact le200 (by omega)), ?_⟩
          generalize cutS (xl ++ x0) none (some 8) = x9 at nm1 ⊢
        case' E2 =>
          have nm1 := nm0
          generalize x0 = x9 at nm1 ⊢
      case' G =>
        have nm1 := nm0
        generalize x0 = x9 at nm1 ⊢
        have b05 := b04.trans (But.of (same_upd (o := .lst []) hl2))
        have R5 := R4.upd (o := .lst []) hl2
        have hL5 := same_upd (o := .lst []) hl2 L _ hL4
      all_goals
        refine ⟨_, rfl, (by show 1 ≤ sizeLine; decide), fun l6 hl6 => ?_⟩
        have b06 := b05.trans (But.of (same_upd (o := .lst [.str x9]) hl6))
        have R6 := R5.upd (o := .lst [.str x9]) hl6
        have hL6 := same_upd (o := .lst [.str x9]) hl6 L _ hL5
        refine ⟨_, rfl, LET, rfl, fun D9 hD9 => ?_⟩
        refine lc_it (walk_str (z := LET)) (fun i H' => Same _ H' ∧ H' D9 = some (.lst (((LET.cps.toList.take i).map (tl x9)).map V.str)))
          ⟨same_upd hD9, upd_same⟩ (fun _ _ _ _ => trivial) ?_ ?_
        · rintro j y H7 H8 hj ⟨sm, hZ⟩ ⟨rfl, c, hc, rfl⟩
          have hc' : LET.cps.toList[j]? = some c := by rw [Array.getElem?_toList]; exact hc
          refine ⟨rfl, ?_⟩
          dsimp only [tYes]
          refine iteT ?_
          have n8 := nm1.2.1
          have n7 : (cutS x9 none (some 7)).length ≤ 8 := by
            rw [show (some 7 : Option Int) = some ((7 : Nat) : Int) from rfl, cut_some]
            show (x9.cps.toList.take (min 7 x9.length)).toArray.size ≤ 8
            rw [List.size_toArray, List.length_take]
            omega
          refine ⟨_, rfl, 7, rfl, x9, rfl, le200 (by omega), _, rfl, _, _, rfl, rfl, (by show (cutS x9 none (some 7)).length + 1 ≤ sizeLine; exact le200 (by omega)), _, hZ, ?_, same_upd2 sm hD9, ?_⟩
          · rw [List.length_map, List.length_map, List.length_take]
            have : LET.cps.size = 26 := by decide +kernel
            exact small200 (by omega)
          · rw [upd_same, List.take_add_one, hc', List.map_append, List.map_append]
            rfl
        · rintro H7 ⟨sm7, hZ⟩
          rw [List.take_of_length_le (by rw [Array.length_toList]; exact Nat.le_refl _)] at hZ
          refine ⟨l6, D9, _, _, rfl, rfl, sm7 _ _ upd_same, hZ, ?_, fun p hp => ?_⟩
          · rw [List.length_map, List.length_map, show LET.cps.toList.length = 26 by decide +kernel]
            exact le200 (show 1 + 26 ≤ 200 by decide)
          have hT : (upd H7 p (.lst ([V.str x9] ++ (LET.cps.toList.map (tl x9)).map V.str))) p = some (.lst ((triesOf x9).map V.str)) := by
            rw [upd_same]
            rfl
          have sm8 : Same _ _ := sm7.trans (same_upd (o := .lst ([V.str x9] ++ (LET.cps.toList.map (tl x9)).map V.str)) hp)
          have hL8 := sm8 _ _ hL6
          have b08 := b06.trans (But.of sm8)
          have R8 := R6.same sm8
          generalize upd H7 p (.lst ([V.str x9] ++ (LET.cps.toList.map (tl x9)).map V.str)) = H8 at hT hL8 b08 R8 ⊢
          clear hZ sm7 sm8
          refine ⟨_, rfl, .inl ⟨rfl, _, SqL.of hL8⟩, _, rfl, p, rfl, ⟨_, SqL.of hT⟩, fun D10 hD10 => ?_⟩
          refine lc_it (walk_list (K := K) (a := p) (xs := (triesOf x9).map V.str)) (fun i H' => Same H8 H' ∧ H' D10 = some (.lst ((((triesOf x9).take i).filter (fun y => decide (y ∉ xs))).map V.str)))
            ⟨same_upd hD10, upd_same⟩ (fun i H' _ h => SqL.of (h.1 _ _ hT)) ?_ ?_
          · rintro j y H9 H10 hj ⟨sm, hZ⟩ ⟨rfl, hy⟩
            rw [List.getElem?_map] at hy
            obtain ⟨z, hz, rfl⟩ := Option.map_eq_some_iff.mp hy
            refine ⟨rfl, ?_⟩
            refine ⟨_, rfl, _, rfl, L, _, rfl, .inl (SqL.of (sm _ _ hL8)), rfl, flat_strs _, _, rfl, ite2 (fun c8 => ?_) (fun c8 => ?_)⟩
            · have c8' : (!inV (.str z) (xs.map V.str)) = true := c8
              rw [inV_strs] at c8'
              have nz : z ∉ xs := fun w => by
                rw [decide_eq_true w] at c8'
                cases c8'
              refine ⟨_, rfl, _, hZ, ?_, same_upd2 sm hD10, ?_⟩
              · rw [List.length_map]
                have l1 := List.length_filter_le (fun y => decide (y ∉ xs)) ((triesOf x9).take j)
                rw [List.length_take] at l1
                have l2 : (triesOf x9).length = 27 := by
                  show (LET.cps.toList.map (tl x9)).length + 1 = 27
                  rw [List.length_map]
                  decide +kernel
                exact small200 (by omega)
              · rw [upd_same, List.take_add_one, hz, List.filter_append, List.map_append]
                show some (HO.lst _) = some (HO.lst (_ ++ (List.filter _ [z]).map V.str))
                rw [List.filter_cons_of_pos (by exact decide_eq_true nz)]
                rfl
            · have c8' : ¬ (!inV (.str z) (xs.map V.str)) = true := c8
              rw [inV_strs] at c8'
              have nz : z ∈ xs := by
                cases w : decide (z ∈ xs) with
                | true => exact of_decide_eq_true w
                | false => exact absurd (by rw [w]; rfl) c8'
              refine ⟨sm, ?_⟩
              rw [hZ, List.take_add_one, hz, List.filter_append]
              show some (HO.lst _) = some (HO.lst ((_ ++ List.filter _ [z]).map V.str))
              rw [List.filter_cons_of_neg (by simpa using nz), List.filter_nil, List.append_nil]
          · rintro H9 ⟨sm9, hZ⟩
            rw [List.length_map, List.take_of_length_le (Nat.le_refl _)] at hZ
            obtain ⟨z, zs, ez⟩ := tries_out (x := x9) (xs := xs) (by omega)
            rw [ez] at hZ
            have mz : z ∈ (triesOf x9).filter (fun y => decide (y ∉ xs)) := by rw [ez]; exact List.mem_cons_self
            obtain ⟨mz1, mz2⟩ := List.mem_filter.mp mz
            have oz : z ∉ xs := of_decide_eq_true mz2
            have nz := tries_nm nm1 z mz1
            refine ⟨D10, _, 0, .str z, rfl, rfl, SqL.of hZ, atI_nat (j := 0) rfl, ?_⟩
            refine ⟨L, _, _, rfl, rfl, sm9 L _ hL8, (by rw [List.length_map]; exact small200 (by omega)), ⟨_, _, _, _, _, _, _, rfl⟩, ?_, ?_, xs ++ [z], ?_, ?_, ?_, nodup_snoc nd oz⟩
            · exact (b08.trans (But.of sm9)).upd hL0
            · exact (R8.same sm9).upd2 nL
            · rw [upd_same, List.map_append]
              rfl
            · rw [List.length_append, el]
              rfl
            · intro x hx
              rcases List.mem_append.mp hx with hx | hx
              · exact nm x hx
              · rw [List.mem_singleton.mp hx]
                exact nz
    · rintro σ H1 ⟨⟨a, b, c, d, e, f, g, rfl⟩, b1, R1, xs, hL, el, nm, nd⟩
      exact ⟨_, rfl, q _ L xs b1 R1 hL0 hL (by omega) nm nd⟩
end
end My

namespace My
open PySem PySem.Spec PyProof.Rows L2 Gy Xl Xs Xt
/-! ### texts of some signs -/
def allIn (cs x : Str) : Bool := x.cps.toList.all fun c => decide (c ∈ cs.cps.toList)
def textOf (v : V) (cs : Str) (n : Int) : Bool := match v with
  | .str x => decide ((1 : Int) ≤ (x.length : Int)) && decide ((x.length : Int) ≤ n) && allIn cs x
  | _ => false
/-- a value whose kind is known -/
inductive Kd (K : PySem.W.Frag) (H : Hp) : V → Prop
  | str (x : Str) (h : x.length ≤ sizeLine) : Kd K H (.str x)
  | oth {v : V} {t : String} (ty : TyX K H v (.type t)) (n : kitB t "str" = some false) (no : ∀ x, v ≠ .str x) : Kd K H v
theorem textOf_oth {v : V} (no : ∀ x, v ≠ .str x) (cs : Str) (n : Int) : textOf v cs n = false := by
  cases v with
  | str x => exact absurd rfl (no x)
  | _ => rfl

section
variable {P : Program} {w : World} {K : PySem.W.Frag} {mg : Str → Option Value} {base : Heap}
def spText (K : PySem.W.Frag) : Sp := fun vs H Q _ => ∃ (v : V) (cs : Str) (n : Int), vs = [v, .str cs, .int n] ∧ Kd K H v ∧
  ∀ H', Same H H' → Q (.bl (textOf v cs n)) H'
theorem take_succ_all {l : List Nat} {i c : Nat} (h : l[i]? = some c) (p : Nat → Bool) : (l.take (i + 1)).map p = (l.take i).map p ++ [p c] := by
  rw [List.take_add_one, h, List.map_append]
  rfl
theorem ok_text {f : Addr} {fd : FuncData} (F : Fun K "is_text_of" "is_text_of" s_is_text_of f fd) (Y : Bn mg) :
    FnOk P w K mg base CX0 1 f fd ["value", "characters", "longest"] (spText K) := by
  refine F.ok sc_is_text_of (fun vs H Q E h => ?_) (fun cdv A outer s H vs Q E hr h => ?_)
  · obtain ⟨v, cs, n, rfl, _⟩ := h
    rfl
  · obtain ⟨v, cs, n, rfl, kd, q⟩ := h
    refine ⟨_, (pss_cons (ps_if (PW.pt (pw_or (pt_not (pt_val (pe_callB call_isi (by rfl) Y.isinstance (by decide +kernel) (pa_cons (pv 0) (pa_cons (pe_bltn (v := .ty "str") (by rfl) Y.str (by decide +kernel) rfl) pa_nil))))) (pw_or1 (pt_not (pt_chain op_le op_le pe_int (pe_callB call_len_str (by rfl) Y.len PySem.boot_len (pa_cons (pv 0) pa_nil)) (pv 2))))))
 (pss_one (ps_ret pe_bl))
 pss_nil)
 (pss_one (ps_ret (pe_callB (cr_all rfl) (by rfl) Y.all (by decide +kernel) (pa_cons (pe_lc (own := [("character", 3)]) (g := gName 3) (tt := tYes) rfl sc_is_text_of.nd (pi_str (pv 0)) (blkOk_by (N := ["value", "characters", "longest", "character"]) (sc := defScope s_is_text_of) (by decide +kernel)) (fun _ _ _ _ _ => (pg_name (i := 3) sc_is_text_of.nd rfl (Or.inl rfl))) (fun _ _ _ _ _ => pts_nil) (fun _ _ _ _ _ => (pe_cmpR op_in_sign (pv 3) (pv 1) rfl))) pa_nil))))), ?_⟩
    cases kd with
    | oth ty no nos =>
      refine ⟨v, rfl, v, _, _, _, false, rfl, .ty "str", ty, kit_ty no, _, rfl, ?_⟩
      refine iteT (iteT ?_)
      rw [textOf_oth nos] at q
      exact q _ (Same.refl _)
    | str x hx =>
      refine ⟨_, rfl, _, _, _, _, true, rfl, .ty "str", .base (.str x), kit_ty (by decide +kernel), _, rfl, ?_⟩
      refine iteF ?_
      have e1 : textOf (.str x) cs n = (decide ((1 : Int) ≤ (x.length : Int)) && decide ((x.length : Int) ≤ n) && allIn cs x) := rfl
      refine ⟨_, rfl, _, rfl, hx, 1, _, rfl, rfl, _, rfl, ?_⟩
      refine ite2 (fun c1 => ?_) (fun c1 => ?_)
      · refine ⟨_, rfl, _, _, rfl, rfl, _, rfl, ?_⟩
        cases c2 : decide ((x.length : Int) ≤ n) with
        | false =>
          refine iteT ?_
          rw [c2, Bool.and_false, Bool.false_and] at e1
          rw [e1] at q
          exact q _ (Same.refl _)
        | true =>
          refine iteF ?_
          rw [c1, c2, Bool.true_and, Bool.true_and] at e1
          refine ⟨_, rfl, x, rfl, fun D hD => ?_⟩
          refine lc_it (walk_str (z := x)) (fun i H' => Same H H' ∧ H' D = some (.lst (((x.cps.toList.take i).map fun c => decide (c ∈ cs.cps.toList)).map V.bl)))
            ⟨same_upd hD, upd_same⟩ (fun _ _ _ _ => trivial) ?_ ?_
          · rintro i y H1 H2 hi ⟨sm, hL⟩ ⟨rfl, c, hc, rfl⟩
            refine ⟨rfl, ?_⟩
            dsimp only [tYes]
            refine iteT ?_
            refine ⟨_, rfl, _, rfl, c, cs, rfl, rfl, _, hL, ?_, same_upd2 sm hD, ?_⟩
            · rw [List.length_map, List.length_map, List.length_take]
              refine Nat.lt_of_le_of_lt (Nat.min_le_left _ _) (Nat.lt_of_lt_of_le hi ?_)
              exact hx
            · have hc' : x.cps.toList[i]? = some c := by rw [Array.getElem?_toList]; exact hc
              rw [upd_same, take_succ_all hc', List.map_append]
              rfl
          · rintro H1 ⟨sm, hL⟩
            refine ⟨D, _, rfl, SqL.of hL, ?_⟩
            have e2 : ((x.cps.toList.take x.cps.size).map fun c => decide (c ∈ cs.cps.toList)).all id = allIn cs x := by
              rw [List.take_of_length_le (by rw [Array.length_toList]; exact Nat.le_refl _), List.all_map]
              rfl
            rw [e1] at q
            show Q (.bl (((x.cps.toList.take x.cps.size).map fun c => decide (c ∈ cs.cps.toList)).all id)) H1
            rw [e2]
            exact q _ sm
      · refine ⟨_, rfl, ?_⟩
        refine iteT ?_
        have c1' : decide ((1 : Int) ≤ (x.length : Int)) = false := by
          cases z : decide ((1 : Int) ≤ (x.length : Int)) with
          | false => rfl
          | true => exact absurd z c1
        rw [c1', Bool.false_and, Bool.false_and] at e1
        rw [e1] at q
        exact q _ (Same.refl _)
structure TxtC (mg : Str → Option Value) : Prop where
  lt : ∃ t, mg "LETTERS" = some (.str LET t)
  ln : ∃ t, mg "LONGEST_NAME" = some (.int 8 t)
def spHost (K : PySem.W.Frag) : Sp := fun vs H Q _ => ∃ v : V, vs = [v] ∧ Kd K H v ∧ ∀ H', Same H H' → Q (.bl (textOf v LET 8)) H'
theorem ok_host {f : Addr} {fd : FuncData} (F : Fun K "is_host_name" "is_host_name" s_is_host_name f fd) (C : TxtC mg) (G_is_text_of : Fk P w K mg base CX0 1 "is_text_of" ["value", "characters", "longest"] (spText K)) :
    FnOk P w K mg base CX0 2 f fd ["value"] (spHost K) := by
  obtain ⟨t1, e1⟩ := C.lt
  obtain ⟨t2, e2⟩ := C.ln
  refine F.ok sc_is_host_name (fun vs H Q E h => ?_) (fun cdv A outer s H vs Q E hr h => ?_)
  · obtain ⟨v, rfl, _⟩ := h
    rfl
  · obtain ⟨v, rfl, kd, q⟩ := h
    refine ⟨_, (pss_one (ps_ret (pe_callF G_is_text_of (hr.mono (by decide)) (by rfl) pass0 (pa_cons (pv 0) (pa_cons (pe_glob (v := .str LET) (by rfl) e1 ⟨_, rfl⟩) (pa_cons (pe_glob (v := .int 8) (by rfl) e2 ⟨_, rfl⟩) pa_nil)))))), ?_⟩
    exact ⟨v, rfl, v, LET, 8, rfl, kd, q⟩
end
end My

namespace My
open PySem PySem.Spec PyProof.Rows L2 Gy Xl Xs Xt
/-! ### what a relink is, over data -/
mutual
/-- few and short parts -/
def sml : PyData → Bool
  | .str x => decide (x.length ≤ 12)
  | .int i => decide (i.natAbs < 1000)
  | .list ds => decide (ds.length ≤ 14) && smls ds
  | .tuple ds => decide (ds.length ≤ 14) && smls ds
  | .dict kvs => kvs.isEmpty
  | .none => true
  | .bool _ => true
def smls : List PyData → Bool
  | [] => true
  | d :: ds => sml d && smls ds
end
theorem smls_mem : ∀ {ds : List PyData} {d : PyData}, smls ds = true → d ∈ ds → sml d = true
  | e :: ds, d, h, m => by
    have h2 : sml e = true ∧ smls ds = true := by simpa only [smls, Bool.and_eq_true] using h
    rcases List.mem_cons.mp m with rfl | m
    · exact h2.1
    · exact smls_mem h2.2 m
def isHost : PyData → Bool
  | .str x => decide ((1 : Int) ≤ (x.length : Int)) && decide ((x.length : Int) ≤ 8) && allIn LET x
  | _ => false
def txts : List PyData → List Str
  | [] => []
  | .str x :: ds => x :: txts ds
  | _ :: ds => txts ds
def isPath : PyData → Bool
  | .tuple ds => decide (3 ≤ ds.length) && (ds.all isHost && decide ((txts ds).Nodup))
  | _ => false
/-- a whole number from 0 on, below another -/
def isIdx (n : Int) : PyData → Bool
  | .int i => decide (0 ≤ i) && decide (i < n)
  | _ => false
theorem isPath_t (ds : List PyData) : isPath (.tuple ds) = (decide (3 ≤ ds.length) && (ds.all isHost && decide ((txts ds).Nodup))) := rfl
theorem isIdx_i (n i : Int) : isIdx n (.int i) = (decide (0 ≤ i) && decide (i < n)) := rfl
def isRel : PyData → Bool
  | .tuple [.tuple ds, c] => isPath (.tuple ds) && isIdx ((ds.length : Int) - 1) c
  | _ => false
theorem txts_all : ∀ {ds : List PyData}, ds.all isHost = true → ds = (txts ds).map PyData.str
  | [], _ => rfl
  | d :: ds, h => by
    have h2 : isHost d = true ∧ ds.all isHost = true := by simpa only [List.all_cons, Bool.and_eq_true] using h
    cases d with
    | str x =>
      show PyData.str x :: ds = PyData.str x :: (txts ds).map PyData.str
      rw [← txts_all h2.2]
    | _ => cases h2.1
section
variable {P : Program} {w : World} {K : PySem.W.Frag} {mg : Str → Option Value} {base : Heap} {H : Hp}
theorem Dns.len : ∀ {vs : List V} {ds : List PyData}, Dns K H vs ds → vs.length = ds.length
  | _, _, .nil => rfl
  | _, _, .cons h t => by rw [List.length_cons, List.length_cons, Dns.len t]
theorem Dns.get : ∀ {vs : List V} {ds : List PyData}, Dns K H vs ds → ∀ {i : Nat} {v : V}, vs[i]? = some v → ∃ d, ds[i]? = some d ∧ Dn K H v d
  | _, _, .nil, i, v, e => by simp at e
  | _, _, .cons h t, 0, v, e => by
    simp at e
    subst e
    exact ⟨_, rfl, h⟩
  | _, _, .cons h t, i + 1, v, e => by
    simp only [List.getElem?_cons_succ] at e ⊢
    exact Dns.get t e
theorem Dns.txts : ∀ {vs : List V} {xs : List Str}, Dns K H vs (xs.map PyData.str) → vs = xs.map V.str
  | _, [], .nil => rfl
  | _, x :: xs, .cons h t => by
    cases h
    rw [Dns.txts t]
    rfl
theorem kd_dn {v : V} {d : PyData} (h : Dn K H v d) (s : sml d = true) : Kd K H v := by
  cases h with
  | non => exact .oth (.base .non) (by decide +kernel) (fun x z => nomatch z)
  | bl b => exact .oth (.base (.bl b)) (by decide +kernel) (fun x z => nomatch z)
  | int i => exact .oth (.base (.int i)) (by decide +kernel) (fun x z => nomatch z)
  | str x =>
    have : x.length ≤ 12 := by simpa only [sml, decide_eq_true_eq] using s
    exact .str x (le200 (by omega))
  | lst e _ => exact .oth (.base (.lst e)) (by decide +kernel) (fun x z => nomatch z)
  | tup e _ => exact .oth e.ty (by decide +kernel) (fun x z => nomatch z)
  | dic e => exact .oth (.base (.dK e)) (by decide +kernel) (fun x z => nomatch z)
theorem host_dn {v : V} {d : PyData} (h : Dn K H v d) : textOf v LET 8 = isHost d := by
  cases h <;> rfl
/-- the kind of a value, and whether it is a tuple -/
theorem tup_or {v : V} {d : PyData} (h : Dn K H v d) : (∃ a xs ds, v = .ref a ∧ d = .tuple ds ∧ Tz H a xs ∧ Dns K H xs ds) ∨ ((∀ ds, d ≠ .tuple ds) ∧ ∃ t, TyX K H v (.type t) ∧ kitB t "tuple" = some false) := by
  cases h with
  | non => exact .inr ⟨(fun _ z => nomatch z), _, .base .non, by decide +kernel⟩
  | bl b => exact .inr ⟨(fun _ z => nomatch z), _, .base (.bl b), by decide +kernel⟩
  | int i => exact .inr ⟨(fun _ z => nomatch z), _, .base (.int i), by decide +kernel⟩
  | str x => exact .inr ⟨(fun _ z => nomatch z), _, .base (.str x), by decide +kernel⟩
  | lst e _ => exact .inr ⟨(fun _ z => nomatch z), _, .base (.lst e), by decide +kernel⟩
  | tup e t => exact .inl ⟨_, _, _, rfl, rfl, e, t⟩
  | dic e => exact .inr ⟨(fun _ z => nomatch z), _, .base (.dK e), by decide +kernel⟩
/-- whether it is a whole number, or True, False -/
theorem int_or {v : V} {d : PyData} (h : Dn K H v d) : (∃ i, v = .int i ∧ d = .int i) ∨ (∃ b, v = .bl b ∧ d = .bool b) ∨ ((∀ i, d ≠ .int i) ∧ ∃ t, TyX K H v (.type t) ∧ kitB t "int" = some false) := by
  cases h with
  | non => exact .inr (.inr ⟨(fun _ z => nomatch z), _, .base .non, by decide +kernel⟩)
  | bl b => exact .inr (.inl ⟨b, rfl, rfl⟩)
  | int i => exact .inl ⟨i, rfl, rfl⟩
  | str x => exact .inr (.inr ⟨(fun _ z => nomatch z), _, .base (.str x), by decide +kernel⟩)
  | lst e _ => exact .inr (.inr ⟨(fun _ z => nomatch z), _, .base (.lst e), by decide +kernel⟩)
  | tup e _ => exact .inr (.inr ⟨(fun _ z => nomatch z), _, e.ty, by decide +kernel⟩)
  | dic e => exact .inr (.inr ⟨(fun _ z => nomatch z), _, .base (.dK e), by decide +kernel⟩)
def spPath (K : PySem.W.Frag) : Sp := fun vs H Q _ => ∃ (v : V) (d : PyData), vs = [v] ∧ Dn K H v d ∧ sml d = true ∧ ∀ H', Same H H' → Q (.bl (isPath d)) H'
theorem ok_path {f : Addr} {fd : FuncData} (F : Fun K "is_relink_path" "is_relink_path" s_is_relink_path f fd) (Y : Bn mg) (sp : ∃ t, mg "SHORTEST_PATH" = some (.int 3 t))
    (G_is_host_name : Fk P w K mg base CX0 2 "is_host_name" ["value"] (spHost K)) : FnOk P w K mg base CX0 3 f fd ["value"] (spPath K) := by
  obtain ⟨t1, e1⟩ := sp
  refine F.ok sc_is_relink_path (fun vs H Q E h => ?_) (fun cdv A outer s H vs Q E hr h => ?_)
  · obtain ⟨v, d, rfl, _⟩ := h
    rfl
  · obtain ⟨v, d, rfl, dn, sm, q⟩ := h
    refine ⟨_, (pss_cons (ps_if (PW.pt (pw_or (pt_not (pt_val (pe_callB call_isi (by rfl) Y.isinstance (by decide +kernel) (pa_cons (pv 0) (pa_cons (pe_bltn (v := .ty "tuple") (by rfl) Y.tuple (by decide +kernel) rfl) pa_nil))))) (pw_or1 (pt_cmpR op_lt (pe_callB call_len_seq (by rfl) Y.len PySem.boot_len (pa_cons (pv 0) pa_nil)) (pe_glob (v := .int 3) (by rfl) e1 ⟨_, rfl⟩) (nomark _)))))
 (pss_one (ps_ret pe_bl))
 pss_nil)
 (pss_one (ps_ret (pe_and (pe_callB (cr_all rfl) (by rfl) Y.all (by decide +kernel) (pa_cons (pe_lc (own := [("host", 1)]) (g := gName 1) (tt := tYes) rfl sc_is_relink_path.nd (pi_tup (pv 0)) (blkOk_by (N := ["value", "host"]) (sc := defScope s_is_relink_path) (by decide +kernel)) (fun _ _ _ _ _ => (pg_name (i := 1) sc_is_relink_path.nd rfl (Or.inl rfl))) (fun _ _ _ _ _ => pts_nil) (fun _ _ _ _ _ => (pe_callF G_is_host_name (hr.mono (by decide)) (by rfl) pass0 (pa_cons (pv 1) pa_nil)))) pa_nil)) (pe_one (pe_cmpR op_eq (pe_lenTexts (by rfl) Y.len (by rfl) Y.set (pv 0)) (pe_callB call_len_seq (by rfl) Y.len PySem.boot_len (pa_cons (pv 0) pa_nil)) (nomark _))))))), ?_⟩
    rcases tup_or dn with ⟨a, xs, ds, rfl, rfl, ha, hd⟩ | ⟨no, t, ty, kt⟩
    · have sm2 : ds.length ≤ 14 ∧ smls ds = true := by simpa only [sml, Bool.and_eq_true, decide_eq_true_eq] using sm
      have el := Dns.len hd
      refine ⟨_, rfl, _, _, _, _, true, rfl, .ty "tuple", ha.ty, kit_ty (by decide +kernel), _, rfl, iteF ?_⟩
      refine ⟨_, rfl, a, _, rfl, .inr (ha.sq), _, 3, rfl, rfl, _, rfl, ite2 (fun c => ?_) (fun c => ?_)⟩
      · have c' := of_decide_eq_true c
        have z : isPath (.tuple ds) = false := by
          rw [isPath_t]
          rw [decide_eq_false (show ¬ 3 ≤ ds.length by omega), Bool.false_and]
        rw [z] at q
        exact q _ (Same.refl _)
      · have c' : ¬ (xs.length : Int) < 3 := fun z => c (decide_eq_true z)
        refine ⟨_, rfl, a, rfl, ⟨_, ha.sq⟩, fun D hD => ?_⟩
        refine lc_it (walk_tup (K := K) (a := a) (xs := xs)) (fun i H' => Same H H' ∧ H' D = some (.lst (((ds.take i).map isHost).map V.bl))) ⟨same_upd hD, upd_same⟩ (fun i H' _ h => (ha.same h.1).sq) ?_ ?_
        · rintro i y H1 H2 hi ⟨s1, hL⟩ ⟨rfl, hy⟩
          obtain ⟨di, hdi, dni⟩ := Dns.get hd hy
          refine ⟨rfl, ?_⟩
          dsimp only [tYes]
          refine iteT ?_
          refine ⟨_, rfl, y, rfl, kd_dn (dni.same s1) (smls_mem sm2.2 (List.mem_of_getElem? hdi)), fun H3 s3 => ?_⟩
          refine ⟨_, s3 _ _ hL, ?_, same_upd2 (s1.trans s3) hD, ?_⟩
          · rw [List.length_map, List.length_map, List.length_take]
            exact small200 (by omega)
          · rw [upd_same, host_dn dni, List.take_add_one, hdi, List.map_append, List.map_append]
            rfl
        · rintro H1 ⟨s1, hL⟩
          rw [el, List.take_of_length_le (Nat.le_refl _)] at hL
          refine ⟨D, _, rfl, SqL.of hL, _, rfl, ite2 (fun c1 => ?_) (fun c1 => ?_)⟩
          · rw [List.all_map] at c1
            have c2 : ds.all isHost = true := c1
            have e := txts_all c2
            have ha1 := ha.same s1
            have ex : xs = (txts ds).map V.str := by
              rw [e] at hd
              exact Dns.txts hd
            have el2 : xs.length = (txts ds).length := by rw [ex, List.length_map]
            refine ⟨_, rfl, a, txts ds, rfl, (by rw [← ex]; exact ha1.sq), (by omega), _, rfl, a, _, rfl, .inr (ha1.sq), rfl, ?_⟩
            have z : isPath (.tuple ds) = decide (V.int ((numd (txts ds) (txts ds).length : Nat) : Int) = V.int (xs.length : Int)) := by
              rw [isPath_t]
              rw [c2, decide_eq_true (show 3 ≤ ds.length by omega), Bool.true_and, Bool.true_and]
              congr 1
              have nf := numd_full (txts ds) (txts ds).length (Nat.le_refl _)
              rw [List.take_of_length_le (Nat.le_refl _)] at nf
              rw [← nf, eq_iff_iff, el2]
              refine ⟨fun z => by rw [z], fun z => ?_⟩
              injection z with z
              omega
            rw [← z]
            exact q _ s1
          · rw [List.all_map] at c1
            have c2 : ds.all isHost = false := Bool.eq_false_iff.mpr c1
            have z : isPath (.tuple ds) = false := by
              rw [isPath_t]
              rw [c2, Bool.false_and, Bool.and_false]
            rw [z] at q
            exact q _ s1
    · refine ⟨v, rfl, v, _, _, _, false, rfl, .ty "tuple", ty, kit_ty kt, _, rfl, ?_⟩
      refine iteT (iteT ?_)
      have z : isPath d = false := by
        cases d with
        | tuple ds => exact absurd rfl (no ds)
        | _ => rfl
      rw [z] at q
      exact q _ (Same.refl _)
/-! ### whole numbers, the cut -/
/-- a whole number from another on -/
def isFrom (n : Int) : PyData → Bool
  | .int i => decide (n ≤ i)
  | _ => false
def spFrom (K : PySem.W.Frag) : Sp := fun vs H Q _ => ∃ (v : V) (n : Int) (d : PyData), vs = [v, .int n] ∧ Dn K H v d ∧ Q (.bl (isFrom n d)) H
theorem ok_from {f : Addr} {fd : FuncData} (F : Fun K "is_integer_from" "is_integer_from" s_is_integer_from f fd) (Y : Bn mg) : FnOk P w K mg base CX0 1 f fd ["value", "least"] (spFrom K) := by
  refine F.ok sc_is_integer_from (fun vs H Q E h => ?_) (fun cdv A outer s H vs Q E hr h => ?_)
  · obtain ⟨v, n, d, rfl, _⟩ := h
    rfl
  · obtain ⟨v, n, d, rfl, dn, q⟩ := h
    refine ⟨_, (pss_one (ps_ret (pe_and (pe_callB call_isi (by rfl) Y.isinstance (by decide +kernel) (pa_cons (pv 0) (pa_cons (pe_bltn (v := .ty "int") (by rfl) Y.int (by decide +kernel) rfl) pa_nil))) (pe_and (pe_not (pe_callB call_isi (by rfl) Y.isinstance (by decide +kernel) (pa_cons (pv 0) (pa_cons (pe_bltn (v := .ty "bool") (by rfl) Y.bool (by decide +kernel) rfl) pa_nil)))) (pe_one (pe_cmpR op_ge (pv 0) (pv 1) (nomark _))))))), ?_⟩
    rcases int_or dn with ⟨i, rfl, rfl⟩ | ⟨b, rfl, rfl⟩ | ⟨no, t, ty, kt⟩
    · refine ⟨_, rfl, _, _, _, _, true, rfl, .ty "int", .base (.int i), kit_ty (by decide +kernel), _, rfl, iteT ?_⟩
      refine ⟨_, rfl, _, _, _, _, false, rfl, .ty "bool", .base (.int i), kit_ty (by decide +kernel), _, rfl, _, rfl, iteT ?_⟩
      exact ⟨_, rfl, _, rfl, _, _, rfl, rfl, q⟩
    · refine ⟨_, rfl, _, _, _, _, true, rfl, .ty "int", .base (.bl b), kit_ty (by decide +kernel), _, rfl, iteT ?_⟩
      refine ⟨_, rfl, _, _, _, _, true, rfl, .ty "bool", .base (.bl b), kit_ty (by decide +kernel), _, rfl, _, rfl, iteF ?_⟩
      exact q
    · refine ⟨v, rfl, v, _, _, _, false, rfl, .ty "int", ty, kit_ty kt, _, rfl, iteF ?_⟩
      have z : isFrom n d = false := by
        cases d with
        | int i => exact absurd rfl (no i)
        | _ => rfl
      rw [z] at q
      exact q
def spIdx (K : PySem.W.Frag) : Sp := fun vs H Q _ => ∃ (v : V) (n : Int) (d : PyData), vs = [v, .int n] ∧ Dn K H v d ∧ Q (.bl (isIdx n d)) H
theorem ok_idx {f : Addr} {fd : FuncData} (F : Fun K "is_index" "is_index" s_is_index f fd) (G_is_integer_from : Fk P w K mg base CX0 1 "is_integer_from" ["value", "least"] (spFrom K)) : FnOk P w K mg base CX0 2 f fd ["value", "size"] (spIdx K) := by
  refine F.ok sc_is_index (fun vs H Q E h => ?_) (fun cdv A outer s H vs Q E hr h => ?_)
  · obtain ⟨v, n, d, rfl, _⟩ := h
    rfl
  · obtain ⟨v, n, d, rfl, dn, q⟩ := h
    refine ⟨_, (pss_one (ps_ret (pe_and (pe_callF G_is_integer_from (hr.mono (by decide)) (by rfl) pass0 (pa_cons (pv 0) (pa_cons pe_int pa_nil))) (pe_one (pe_cmpR op_lt (pv 0) (pv 1) (nomark _)))))), ?_⟩
    refine ⟨_, rfl, v, 0, d, rfl, dn, _, rfl, ite2 (fun c => ?_) (fun c => ?_)⟩
    · cases d with
      | int i =>
        cases dn
        refine ⟨_, rfl, _, rfl, _, _, rfl, rfl, ?_⟩
        have z : isIdx n (.int i) = decide (i < n) := by
          rw [isIdx_i]
          have c' : decide ((0 : Int) ≤ i) = true := c
          rw [c', Bool.true_and]
        rw [z] at q
        exact q
      | _ => cases c
    · have z : isIdx n d = false := by
        cases d with
        | int i =>
          rw [isIdx_i]
          have c' : decide ((0 : Int) ≤ i) = false := Bool.eq_false_iff.mpr c
          rw [c', Bool.false_and]
        | _ => rfl
      rw [z] at q
      exact q
def spCut (K : PySem.W.Frag) : Sp := fun vs H Q _ => ∃ (a : Addr) (xs : List V) (v : V) (d : PyData), vs = [.ref a, v] ∧ Tz H a xs ∧ Dn K H v d ∧ Q (.bl (isIdx ((xs.length : Int) - 1) d)) H
theorem ok_cut {f : Addr} {fd : FuncData} (F : Fun K "is_cut_of" "is_cut_of" s_is_cut_of f fd) (Y : Bn mg) (G_is_index : Fk P w K mg base CX0 2 "is_index" ["value", "size"] (spIdx K)) : FnOk P w K mg base CX0 3 f fd ["path", "value"] (spCut K) := by
  refine F.ok sc_is_cut_of (fun vs H Q E h => ?_) (fun cdv A outer s H vs Q E hr h => ?_)
  · obtain ⟨a, xs, v, d, rfl, _⟩ := h
    rfl
  · obtain ⟨a, xs, v, d, rfl, ha, dn, q⟩ := h
    refine ⟨_, (pss_one (ps_ret (pe_callF G_is_index (hr.mono (by decide)) (by rfl) pass0 (pa_cons (pv 1) (pa_cons (pe_op op_sub (pe_callB call_len_seq (by rfl) Y.len PySem.boot_len (pa_cons (pv 0) pa_nil)) pe_int) pa_nil))))), ?_⟩
    exact ⟨_, rfl, _, rfl, a, _, rfl, .inr ha.sq, _, _, rfl, rfl, v, _, d, rfl, dn, q⟩
/-! ### is_relink -/
def spRel (K : PySem.W.Frag) : Sp := fun vs H Q _ => ∃ (v : V) (d : PyData), vs = [v] ∧ Dn K H v d ∧ sml d = true ∧ ∀ H', Same H H' → Q (.bl (isRel d)) H'
theorem isRel_2 (p c : PyData) : isRel (.tuple [p, c]) = (isPath p && (match p with | .tuple ds => isIdx ((ds.length : Int) - 1) c | _ => false)) := by
  cases p <;> rfl
theorem isRel_n {ds : List PyData} (h : ds.length ≠ 2) : isRel (.tuple ds) = false := by
  match ds, h with
  | [], _ => rfl
  | [p], _ => cases p <;> rfl
  | p :: c :: e :: ds, _ => cases p <;> rfl
  | [p, c], h => exact absurd rfl h
theorem ok_rel {f : Addr} {fd : FuncData} (F : Fun K "is_relink" "is_relink" s_is_relink f fd) (Y : Bn mg) (G_is_relink_path : Fk P w K mg base CX0 3 "is_relink_path" ["value"] (spPath K)) (G_is_cut_of : Fk P w K mg base CX0 3 "is_cut_of" ["path", "value"] (spCut K)) :
    FnOk P w K mg base CX0 4 f fd ["value"] (spRel K) := by
  refine F.ok sc_is_relink (fun vs H Q E h => ?_) (fun cdv A outer s H vs Q E hr h => ?_)
  · obtain ⟨v, d, rfl, _⟩ := h
    rfl
  · obtain ⟨v, d, rfl, dn, sm, q⟩ := h
    refine ⟨_, (pss_cons (ps_if (PW.pt (pw_or (pt_not (pt_val (pe_callB call_isi (by rfl) Y.isinstance (by decide +kernel) (pa_cons (pv 0) (pa_cons (pe_bltn (v := .ty "tuple") (by rfl) Y.tuple (by decide +kernel) rfl) pa_nil))))) (pw_or1 (pt_cmpR op_ne (pe_callB call_len_seq (by rfl) Y.len PySem.boot_len (pa_cons (pv 0) pa_nil)) pe_int (nomark _)))))
 (pss_one (ps_ret pe_bl))
 pss_nil)
 (pss_cons (ps_asg (pv 0) (pg_tup (by rfl) (pgs_cons (pg_name (i := 1) sc_is_relink.nd rfl (Or.inl rfl)) (pgs_cons (pg_name (i := 2) sc_is_relink.nd rfl (Or.inl rfl)) pgs_nil))))
 (pss_one (ps_ret (pe_and (pe_callF G_is_relink_path (hr.mono (by decide)) (by rfl) pass0 (pa_cons (pv 1) pa_nil)) (pe_one (pe_callF G_is_cut_of (hr.mono (by decide)) (by rfl) pass0 (pa_cons (pv 1) (pa_cons (pv 2) pa_nil))))))))), ?_⟩
    rcases tup_or dn with ⟨a, xs, ds, rfl, rfl, ha, hd⟩ | ⟨no, t, ty, kt⟩
    · have sm2 : ds.length ≤ 14 ∧ smls ds = true := by simpa only [sml, Bool.and_eq_true, decide_eq_true_eq] using sm
      have el := Dns.len hd
      refine ⟨_, rfl, _, _, _, _, true, rfl, .ty "tuple", ha.ty, kit_ty (by decide +kernel), _, rfl, iteF ?_⟩
      refine ⟨_, rfl, a, _, rfl, .inr (ha.sq), rfl, _, rfl, ite2 (fun c => ?_) (fun c => ?_)⟩
      · have c' : ds.length ≠ 2 := fun z => by
          rw [decide_eq_true (show V.int (xs.length : Int) = V.int 2 by rw [el, z]; rfl)] at c
          cases c
        rw [isRel_n c'] at q
        exact q _ (Same.refl _)
      · have c' : xs.length = 2 := by
          have z : V.int (xs.length : Int) = V.int 2 := Decidable.of_not_not fun z => c (by rw [decide_eq_false z]; rfl)
          injection z with z
          omega
        obtain ⟨p, c0, rfl⟩ : ∃ p c0, xs = [p, c0] := by
          match xs, c' with
          | [p, c0], _ => exact ⟨p, c0, rfl⟩
        cases hd with
        | @cons _ _ dp _ h1 hd =>
        cases hd with
        | @cons _ _ dc _ h2 hd =>
          cases hd
          have m1 : sml dp = true := smls_mem sm2.2 List.mem_cons_self
          rw [isRel_2] at q
          refine ⟨_, rfl, a, _, rfl, ha.sq, rfl, _, _, rfl, _, _, rfl, rfl, ?_⟩
          refine ⟨_, rfl, p, dp, rfl, h1, m1, fun H1 s1 => ⟨_, rfl, ite2 (fun c1 => ?_) (fun c1 => ?_)⟩⟩
          · rw [c1, Bool.true_and] at q
            rcases tup_or h1 with ⟨b, ys, es, rfl, rfl, hb, hes⟩ | ⟨no, _⟩
            · have el2 := Dns.len hes
              refine ⟨_, rfl, _, rfl, b, ys, c0, dc, rfl, hb.same s1, h2.same s1, ?_⟩
              rw [el2]
              exact q _ s1
            · cases dp with
              | tuple es => exact absurd rfl (no es)
              | _ => cases c1
          · rw [Bool.eq_false_iff.mpr c1, Bool.false_and] at q
            exact q _ s1
    · refine ⟨v, rfl, v, _, _, _, false, rfl, .ty "tuple", ty, kit_ty kt, _, rfl, ?_⟩
      refine iteT (iteT ?_)
      have z : isRel d = false := by
        cases d with
        | tuple ds => exact absurd rfl (no ds)
        | _ => rfl
      rw [z] at q
      exact q _ (Same.refl _)
end
end My

namespace My
open PySem PySem.Spec PyProof.Rows L2 Gy Xl Xs Xt
/-- a class of errors with one field: raised -/
structure Rz (P : Program) (w : World) (K : PySem.W.Frag) (mg : Str → Option Value) (base : Heap) (nm f : Str) (C : Addr) : Prop where
  gm : mg nm = some (.ref C)
  ty : PySem.W.typeIn K (.ref C) = some (.type "type")
  ex : ∃ (fI : Addr) (fd : FuncData), XIn K C fI ∧ FnOk P w K mg base CX0 1 fI fd ["self", f] (spI1 C f) ∧ XB K fd ["self", f] [] (fun us _ => us) (fun vs _ => vs)
/-- what is wanted where C(v) is raised -/
def Ro (E : XK) (C : Addr) (f : Str) (v : V) (H : Hp) : Prop := ∀ H' dx, Same H H' → H' dx = some (.xd [(f, v)]) → E (.ref C) (some dx) H'
theorem Ro.same {E : XK} {C : Addr} {f : Str} {v : V} {H H1 : Hp} (h : Ro E C f v H) (s : Same H H1) : Ro E C f v H1 := fun H' dx s1 e => h H' dx (s.trans s1) e
/-- the data of a relink -/
def reld (xs : List Str) (c : Nat) : PyData := .tuple [.tuple (xs.map PyData.str), .int (c : Int)]
theorem rel_parts {d : PyData} (h : isRel d = true) : ∃ (xs : List Str) (c : Nat), d = reld xs c ∧ 3 ≤ xs.length ∧ xs.Nodup ∧ c + 2 ≤ xs.length ∧ (xs.map PyData.str).all isHost = true := by
  match d, h with
  | .tuple [.tuple ds, c], h =>
    have h2 : isPath (.tuple ds) = true ∧ isIdx ((ds.length : Int) - 1) c = true := by simpa only [isRel, Bool.and_eq_true] using h
    have h3 := h2.1
    rw [isPath_t, Bool.and_eq_true, Bool.and_eq_true, decide_eq_true_eq, decide_eq_true_eq] at h3
    obtain ⟨l3, ah, nd⟩ := h3
    have e := txts_all ah
    have el : ds.length = (txts ds).length := by
      have := congrArg List.length e
      rw [List.length_map] at this
      exact this
    match c, h2.2 with
    | .int i, hc =>
      rw [isIdx_i, Bool.and_eq_true, decide_eq_true_eq, decide_eq_true_eq] at hc
      obtain ⟨j, rfl⟩ := Int.eq_ofNat_of_zero_le hc.1
      refine ⟨txts ds, j, ?_, by omega, nd, by omega, by rw [← e]; exact ah⟩
      unfold reld
      rw [← e]
section
variable {P : Program} {w : World} {K : PySem.W.Frag} {mg : Str → Option Value} {base : Heap} {H : Hp}
theorem rel_heap {v : V} {xs : List Str} {c : Nat} (h : Dn K H v (reld xs c)) : ∃ a b, v = .ref a ∧ Tz H a [.ref b, .int (c : Int)] ∧ Tz H b (xs.map V.str) := by
  cases h with
  | tup ha hs =>
    cases hs with
    | cons h1 h2 =>
      cases h2 with
      | cons h2 h3 =>
        cases h3
        cases h1 with
        | tup hb hx =>
          cases h2
          have e := Dns.txts hx
          subst e
          exact ⟨_, _, rfl, ha, hb⟩
theorem at_nat {xs : List Str} {i : Nat} (h : i < xs.length) : atI (xs.map V.str) (i : Int) = some (.str (xs.getD i "")) := by
  refine atI_nat ?_
  rw [List.getElem?_map, List.getD_eq_getElem?_getD, List.getElem?_eq_getElem h]
  rfl
theorem at_end {xs : List Str} (h : 0 < xs.length) : atI (xs.map V.str) (-1) = some (.str (xs.getD (xs.length - 1) "")) := by
  have ne : xs ≠ [] := fun z => by rw [z] at h; cases h
  have e := List.dropLast_concat_getLast ne
  have g : xs.getD (xs.length - 1) "" = xs.getLast ne := by
    rw [List.getD_eq_getElem?_getD, List.getElem?_eq_getElem (by omega), List.getLast_eq_getElem]
    rfl
  rw [g]
  conv => lhs; rw [← e]
  rw [List.map_append]
  exact atI_last _ _
def spChk (K : PySem.W.Frag) (C : Addr) : Sp := fun vs H Q E => ∃ (v : V) (d : PyData), vs = [v] ∧ Dn K H v d ∧ sml d = true ∧ (isRel d = true → ∀ H', Same H H' → Q .non H') ∧ (isRel d = false → Ro E C "value" v H)
theorem ok_chk {f C : Addr} {fd : FuncData} (F : Fun K "check_relink" "check_relink" s_check_relink f fd) (R : Rz P w K mg base "InvalidRelink" "value" C)
    (G_is_relink : Fk P w K mg base CX0 4 "is_relink" ["value"] (spRel K)) : FnOk P w K mg base (L2.CX P w) 5 f fd ["value"] (spChk K C) := by
  obtain ⟨fI, fdI, XI, GI, bI⟩ := R.ex
  refine F.okX sc_check_relink (fun vs H Q E h => ?_) (fun cdv A outer s H vs Q E hr h => ?_)
  · obtain ⟨v, d, rfl, _⟩ := h
    rfl
  · obtain ⟨v, d, rfl, dn, sm, q1, q2⟩ := h
    refine ⟨_, (pss_one (ps_if (pt_not (pt_val (pe_callF G_is_relink (hr.mono (by decide)) (by rfl) pass0 (pa_cons (pv 0) pa_nil))))
 (pss_one (ps_raise1 rfl (takes_of rfl rfl rfl rfl) XI R.ty GI (hr.mono (by decide)) bI (by rfl) R.gm (pa_cons (pv 0) pa_nil)))
 pss_nil)), ?_⟩
    refine ⟨_, rfl, v, d, rfl, dn, sm, fun H1 s1 => ⟨_, rfl, ?_⟩⟩
    cases c : isRel d with
    | true => exact iteF (q1 c _ s1)
    | false =>
      refine iteT ⟨_, rfl, v, rfl, fun dx nd => ?_⟩
      exact q2 c _ dx (s1.trans (same_upd nd)) upd_same
/-! ### the place of a host -/
def posn (xs : List Str) : PyData → Option Nat
  | .str x => if x ∈ xs then some (xs.idxOf x) else none
  | _ => none
/-- a query of a relink and a host -/
def spQh (K : PySem.W.Frag) (C U : Addr) (g : Nat → Nat → V) : Sp := fun vs H Q E => ∃ (v h : V) (d e : PyData), vs = [v, h] ∧ Dn K H v d ∧ sml d = true ∧ Dn K H h e ∧ sml e = true ∧ (isRel d = false → Ro E C "value" v H) ∧
  ∀ xs c, d = reld xs c → isRel d = true → (∀ j, posn xs e = some j → ∀ H', Same H H' → Q (g j c) H') ∧ (posn xs e = none → Ro E U "host" h H)
theorem ok_pos {f C U : Addr} {fd : FuncData} (F : Fun K "position" "position" s_position f fd) (R : Rz P w K mg base "UnknownHost" "host" U) (G_check_relink : Fk P w K mg base (L2.CX P w) 5 "check_relink" ["value"] (spChk K C))
    (G_is_host_name : Fk P w K mg base CX0 2 "is_host_name" ["value"] (spHost K)) : FnOk P w K mg base (L2.CX P w) 6 f fd ["relink", "host"] (spQh K C U fun j _ => .int (j : Int)) := by
  obtain ⟨fI, fdI, XI, GI, bI⟩ := R.ex
  refine F.okX sc_position (fun vs H Q E h => ?_) (fun cdv A outer s H vs Q E hr h => ?_)
  · obtain ⟨v, h, d, e, rfl, _⟩ := h
    rfl
  · obtain ⟨v, h, d, e, rfl, dn, sm, dh, sh, q2, q1⟩ := h
    refine ⟨_, (pss_cons (ps_expr (pe_callF G_check_relink (hr.mono (by decide)) (by rfl) (passes_call (E := E) (takes_of rfl rfl rfl rfl) (fun _ _ _ _ h => h)) (pa_cons (pv 0) pa_nil)))
 (pss_cons (ps_set (i := 2) sc_position.nd rfl (.inl rfl) (pe_ix ix_tup (pv 0) pe_int (fun _ _ => rfl)))
 (pss_cons (ps_if (PW.pt (pw_or (pt_not (pt_val (pe_callF G_is_host_name (hr.mono (by decide)) (by rfl) pass0 (pa_cons (pv 1) pa_nil)))) (pw_or1 (pt_cmpR op_notIn_seq (pv 1) (pv 2) rfl))))
 (pss_one (ps_raise1 rfl (takes_of rfl rfl rfl rfl) XI R.ty GI (hr.mono (by decide)) bI (by rfl) R.gm (pa_cons (pv 1) pa_nil)))
 pss_nil)
 (pss_one (ps_ret (pe_tm PySem.F.slot_tuple_index PySem.F.type_tuple_index mt_tup_index (pv 2) (pa_cons (pv 1) pa_nil))))))), ?_⟩
    refine ⟨_, rfl, v, d, rfl, dn, sm, fun c H1 s1 => ?_, q2⟩
    obtain ⟨xs, k, rfl, l3, nd, kl, ah⟩ := rel_parts c
    obtain ⟨a, b, rfl, ha, hb⟩ := rel_heap dn
    have ha1 := ha.same s1
    obtain ⟨q3, q4⟩ := q1 xs k rfl c
    refine ⟨_, rfl, a, _, 0, .ref b, rfl, rfl, ha1.sq, atI_nat (j := 0) rfl, ?_⟩
    refine ⟨_, rfl, h, rfl, kd_dn (dh.same s1) sh, fun H2 s2 => ?_⟩
    have s02 := s1.trans s2
    have hb2 := hb.same s02
    rw [host_dn dh]
    refine ⟨_, rfl, ?_⟩
    cases ce : isHost e with
    | false =>
      refine iteT (iteT ⟨_, rfl, h, rfl, fun dx nx => ?_⟩)
      have no : posn xs e = none := by
        cases e with
        | str x =>
          refine if_neg fun m => ?_
          rw [List.all_eq_true] at ah
          rw [ah _ (List.mem_map_of_mem m)] at ce
          cases ce
        | _ => rfl
      exact q4 no _ dx (s02.trans (same_upd nx)) upd_same
    | true =>
      refine iteF ?_
      cases dh with
      | str x =>
        refine ⟨_, rfl, _, rfl, b, _, rfl, .inr (hb2.sq), rfl, flat_strs xs, _, rfl, ite2 (fun c9 => ?_) (fun c9 => ?_)⟩
        · have c9' : (!inV (.str x) (xs.map V.str)) = true := c9
          rw [inV_strs] at c9'
          have no : posn xs (.str x) = none := if_neg fun m => by
            rw [decide_eq_true m] at c9'
            cases c9'
          exact ⟨_, rfl, _, rfl, fun dx nx => q4 no _ dx (s02.trans (same_upd nx)) upd_same⟩
        · have c9' : ¬ (!inV (.str x) (xs.map V.str)) = true := c9
          rw [inV_strs] at c9'
          have m : x ∈ xs := by
            cases z : decide (x ∈ xs) with
            | true => exact of_decide_eq_true z
            | false => exact absurd (by rw [z]; rfl) c9'
          have lt := List.idxOf_lt_length_of_mem m
          refine ⟨_, rfl, ⟨b, _, rfl, hb2⟩, _, rfl, b, xs, x, xs.idxOf x, rfl, rfl, hb2.sq, ?_, ?_, q3 _ (if_pos m) _ s02⟩
          · rw [List.getElem?_eq_getElem lt, List.getElem_idxOf]
          · intro j lj ej
            have lj2 : j < xs.length := Nat.lt_trans lj lt
            rw [List.getElem?_eq_getElem lj2] at ej
            injection ej with ej
            refine absurd (ej.trans (List.getElem_idxOf lt).symm) (List.pairwise_iff_getElem.mp nd j _ lj2 lt lj)
      | _ => cases ce
end
end My

namespace My
open PySem PySem.Spec PyProof.Rows L2 Gy Xl Xs Xt
/-! ### texts or None, cuts of a path, drawn relinks -/
def optV : Option Str → V
  | none => .non
  | some s => .str s
/-- the text at a place, counted from the end -/
def fromEnd (xs : List Str) (n : Nat) : Str := xs.getD (xs.length - n) ""
theorem inV_non : ∀ xs : List Str, inV .non (xs.map V.str) = false
  | [] => rfl
  | x :: xs => by
    have ih := inV_non xs
    unfold inV at ih ⊢
    rw [List.map_cons, List.any_cons, ih]
    rfl
theorem flat_opt (src : Option Str) : flatV (optV src) = true := by
  cases src <;> rfl
/-- the one text at a place, or none -/
def one (xs : List Str) (m n : Nat) : List Str := (xs.drop m).take (n - m)
theorem cut_one (xs : List Str) (m n : Nat) (hm : m ≤ xs.length) : cutV (xs.map V.str) (some (m : Int)) (some (n : Int)) = (one xs m n).map V.str := by
  unfold cutV one
  rw [HT.sIx_nat, HT.sIx_nat, List.length_map, Nat.min_eq_left hm, ← List.map_drop, ← List.map_take]
  congr 1
  by_cases h : n ≤ xs.length
  · rw [Nat.min_eq_left h]
  · rw [Nat.min_eq_right (by omega), List.take_of_length_le (by rw [List.length_drop]; omega), List.take_of_length_le (by rw [List.length_drop]; omega)]
theorem one_at {xs : List Str} {m : Nat} (h : m < xs.length) : one xs m (m + 1) = [xs.getD m ""] := by
  unfold one
  rw [show m + 1 - m = 1 by omega, List.drop_eq_getElem_cons h, List.take_succ_cons, List.take_zero, List.getD_eq_getElem?_getD, List.getElem?_eq_getElem h]
  rfl
theorem one_out {xs : List Str} {m n : Nat} (h : xs.length ≤ m) : one xs m n = [] := by
  unfold one
  rw [List.drop_eq_nil_of_le h, List.take_nil]
theorem one_nil {xs : List Str} {m : Nat} : one xs m m = [] := by
  unfold one
  rw [Nat.sub_self]
  rfl
theorem one_len (xs : List Str) (m : Nat) : (one xs m (m + 1)).length ≤ 1 := by
  unfold one
  rw [List.length_take]
  omega
theorem one_sub {xs : List Str} {m n : Nat} {y : Str} (h : y ∈ one xs m n) : y ∈ xs := List.mem_of_mem_drop (List.mem_of_mem_take h)
theorem scal_opt (y : Str) (src : Option Str) : scal (.str y) (optV src) = true := by
  cases src <;> rfl
theorem _root_.Xt.Tz.but {H H' : Hp} {a r : Addr} {xs : List V} (h : Tz H a xs) (R : Rng H r) (b : But r H H') : Tz H' a xs := by
  obtain ⟨o, e, c⟩ := h
  refine ⟨o, b a _ (fun z => ?_) e, c⟩
  obtain ⟨x, y, e2, _⟩ := R
  rw [z, e2] at e
  cases e
theorem _root_.Xt.Tz.updL {H : Hp} {a D : Addr} {xs l : List V} {o : HO} (h : Tz H a xs) (hD : H D = some (.lst l)) : Tz (upd H D o) a xs := by
  obtain ⟨ob, e, c⟩ := h
  refine ⟨ob, ?_, c⟩
  rw [upd_ne (fun z => by rw [z, hD] at e; cases e)]
  exact e
theorem cut2 (xs : List Str) (h : 2 ≤ xs.length) : cutV (xs.map V.str) (some 2) none = (xs.drop 2).map V.str ∧ cutV (xs.map V.str) none (some 2) = (xs.take 2).map V.str := by
  have e : HT.sIx (xs.map V.str).length 0 (some 2) = 2 := by
    rw [show (some 2 : Option Int) = some ((2 : Nat) : Int) from rfl, HT.sIx_nat, List.length_map]
    omega
  have e2 : HT.sIx (xs.map V.str).length (xs.map V.str).length (some 2) = 2 := by
    rw [show (some 2 : Option Int) = some ((2 : Nat) : Int) from rfl, HT.sIx_nat, List.length_map]
    omega
  constructor
  · unfold cutV
    rw [e, HT.sIx_none, List.take_of_length_le (by rw [List.length_drop]; exact Nat.le_refl _), List.map_drop]
  · unfold cutV
    rw [e2, HT.sIx_none, List.drop_zero, Nat.sub_zero, List.map_take]
def spLaw (K : PySem.W.Frag) : Sp := fun vs H Q _ => ∃ (a : Addr) (ns : List Int), vs = [.ref a] ∧ SqL K H a (ns.map V.int) ∧ ns.length ≤ 63 ∧ ∀ H', Q (.bl true) H'
theorem at_end2 {xs : List Str} (h : 2 ≤ xs.length) : atI (xs.map V.str) (-2) = some (.str (fromEnd xs 2)) := by
  have l : (xs.map V.str).length = xs.length := List.length_map ..
  have e : ixN (xs.map V.str).length (-2) = some (xs.length - 2) := by
    unfold ixN
    rw [if_neg (by omega), if_pos (by omega), l]
    congr 1
    omega
  show (ixN (xs.map V.str).length (-2)).bind (fun j => (xs.map V.str)[j]?) = _
  rw [e]
  show (xs.map V.str)[xs.length - 2]? = _
  unfold fromEnd
  rw [List.getD_eq_getElem?_getD, List.getElem?_map, List.getElem?_eq_getElem (by omega)]
  rfl
theorem strs_inj : ∀ {a b : List Str}, a.map PyData.str = b.map PyData.str → a = b
  | [], [], _ => rfl
  | [], y :: b, h => nomatch h
  | x :: a, [], h => nomatch h
  | x :: a, y :: b, h => by
    rw [List.map_cons, List.map_cons] at h
    injection h with h1 h2
    injection h1 with h1
    rw [h1, strs_inj h2]
theorem reld_inj {xs ys : List Str} {c d : Nat} (h : reld xs c = reld ys d) : xs = ys ∧ c = d := by
  unfold reld at h
  injection h with e1
  injection e1 with e1 e2
  injection e1 with e1
  injection e2 with e2
  injection e2 with e2
  exact ⟨strs_inj e1, by omega⟩
theorem txts_map : ∀ xs : List Str, txts (xs.map PyData.str) = xs
  | [] => rfl
  | x :: xs => by
    show x :: txts (xs.map PyData.str) = _
    rw [txts_map xs]
theorem host_of {x : Str} (h : Nm x) : isHost (.str x) = true := by
  obtain ⟨h1, h2, h3⟩ := h
  show (decide ((1 : Int) ≤ (x.length : Int)) && decide ((x.length : Int) ≤ 8) && allIn LET x) = true
  rw [decide_eq_true (show (1 : Int) ≤ (x.length : Int) by omega), decide_eq_true (show (x.length : Int) ≤ 8 by omega)]
  unfold allIn
  rw [Bool.true_and, Bool.true_and, List.all_eq_true]
  exact fun c hc => decide_eq_true (h3 c hc)
/-- a drawn relink is one -/
theorem rel_of {xs : List Str} {c : Nat} (nm : ∀ x ∈ xs, Nm x) (nd : xs.Nodup) (l3 : 3 ≤ xs.length) (cl : c + 2 ≤ xs.length) : isRel (reld xs c) = true := by
  show (isPath (.tuple (xs.map PyData.str)) && isIdx (((xs.map PyData.str).length : Int) - 1) (.int (c : Int))) = true
  rw [isPath_t, isIdx_i, txts_map, List.length_map, decide_eq_true l3, decide_eq_true nd, decide_eq_true (show (0 : Int) ≤ (c : Int) by omega), decide_eq_true (show (c : Int) < (xs.length : Int) - 1 by omega)]
  have e : (xs.map PyData.str).all isHost = true := by
    rw [List.all_eq_true]
    intro d hd
    obtain ⟨x, hx, rfl⟩ := List.mem_map.mp hd
    exact host_of (nm x hx)
  rw [e]
  rfl
theorem smls_strs : ∀ {xs : List Str}, (∀ x ∈ xs, Nm x) → smls (xs.map PyData.str) = true
  | [], _ => rfl
  | x :: xs, h => by
    show (decide (x.length ≤ 12) && smls (xs.map PyData.str)) = true
    have := (h x List.mem_cons_self).2.1
    rw [smls_strs fun y hy => h y (List.mem_cons_of_mem _ hy), decide_eq_true (show x.length ≤ 12 by omega)]
    rfl
theorem sml_reld {xs : List Str} {c : Nat} (nm : ∀ x ∈ xs, Nm x) (l14 : xs.length ≤ 14) (cl : c + 2 ≤ xs.length) : sml (reld xs c) = true := by
  show (decide (2 ≤ 14) && ((decide ((xs.map PyData.str).length ≤ 14) && smls (xs.map PyData.str)) && (decide ((c : Int).natAbs < 1000) && true))) = true
  rw [smls_strs nm, List.length_map, decide_eq_true l14, decide_eq_true (show (c : Int).natAbs < 1000 by omega)]
  rfl
theorem dns_strs {K : PySem.W.Frag} {H : Hp} : ∀ xs : List Str, Dns K H (xs.map V.str) (xs.map PyData.str)
  | [] => .nil
  | x :: xs => .cons (.str x) (dns_strs xs)
theorem dn_reld {K : PySem.W.Frag} {H : Hp} {a b : Addr} {xs : List Str} {c : Nat} (ha : Tz H a [.ref b, .int (c : Int)]) (hb : Tz H b (xs.map V.str)) : Dn K H (.ref a) (reld xs c) :=
  .tup ha (.cons (.tup hb (dns_strs xs)) (.cons (.int _) .nil))
theorem getD_mem {xs : List Str} {j : Nat} (h : j < xs.length) : xs.getD j "" ∈ xs := by
  rw [List.getD_eq_getElem?_getD, List.getElem?_eq_getElem h]
  exact List.getElem_mem h
theorem posn_at {xs : List Str} {j : Nat} (nd : xs.Nodup) (h : j < xs.length) : posn xs (.str (xs.getD j "")) = some j := by
  show (if xs.getD j "" ∈ xs then some (xs.idxOf (xs.getD j "")) else none) = some j
  rw [if_pos (getD_mem h), List.getD_eq_getElem?_getD, List.getElem?_eq_getElem h]
  show some (xs.idxOf xs[j]) = some j
  rw [nd.idxOf_getElem j h]
theorem posn_lt {xs : List Str} {e : PyData} {j : Nat} (h : posn xs e = some j) : j < xs.length := by
  cases e with
  | str x =>
    have h' : (if x ∈ xs then some (xs.idxOf x) else none) = some j := h
    by_cases m : x ∈ xs
    · rw [if_pos m] at h'
      cases h'
      exact List.idxOf_lt_length_of_mem m
    · rw [if_neg m] at h'
      cases h'
  | _ => cases h
end My

/-! An own exception of two fields raised; a call of what a subscript gives. -/
namespace Xl
open PySem PySem.Spec PyProof.Rows L2 Gy
def spI2 (C : Addr) (f1 f2 : Str) : Sp := fun vs H Q _ => ∃ (a : Addr) (v1 v2 : V), vs = [.ref a, v1, v2] ∧ H a = some (exo a C none) ∧
  ∀ dx, H dx = none → dx ≠ a → Q .non (upd (upd (upd H dx (exd dx [(f1, v1)])) a (exo a C (some dx))) dx (exd dx [(f2, v2), (f1, v1)]))
theorem del_made2 {H : Hp} {a dx C : Addr} {f1 f2 : Str} {v1 v2 : V} (n : H a = none) (ne : dx ≠ a) :
    upd (del (upd (upd (upd (upd H a (exo a C none)) dx (exd dx [(f1, v1)])) a (exo a C (some dx))) dx (exd dx [(f2, v2), (f1, v1)])) a) dx (.xd [(f2, v2), (f1, v1)]) = upd H dx (.xd [(f2, v2), (f1, v1)]) := by
  funext b
  by_cases h1 : b = dx
  · rw [h1, upd_same, upd_same]
  · rw [upd_ne h1, upd_ne h1]
    by_cases h2 : b = a
    · rw [h2, del_same, n]
    · rw [del_ne h2, upd_ne h1, upd_ne h2, upd_ne h1, upd_ne h2]
section
variable {X : Cx} {C fI : Addr} {fd : FuncData} {f1 f2 x : Str} {e e2 : Expr} {p pos : Pos}
/-- C(e, e2), to be raised -/
def tMk2 (C : Addr) (f1 f2 : Str) (t : TA) : L2.St → Hp → XK → Prop := fun σ H Q => t σ H fun vs H1 => ∃ v1 v2, vs = [v1, v2] ∧ ∀ d, H1 d = none → Q (.ref C) (some d) (upd H1 d (.xd [(f2, v2), (f1, v1)]))
theorem pmk_x2 {t : TA} (T : XIn X.K C fI) (ty : PySem.W.typeIn X.K (.ref C) = some (.type "type")) (F : FnOk X.prog X.w X.K X.mg X.base CX0 1 fI fd ["self", f1, f2] (spI2 C f1 f2)) (hr : Room 2 X.A)
    (hb : XB X.K fd ["self", f1, f2] [] (fun us _ => us) (fun vs _ => vs)) (hg : Gl X x) (hm : X.mg x = some (.ref C)) (ha : PA X [e, e2] t)
    (hdb : (x == ("__debug__" : Str)) = false := by decide) (hst : starEach [e, e2] X.env = (false, eval e X.env) :: starEach [e2] X.env := by rfl) (hpl : (backTo pos (starEach [e2] X.env)).any (·.1) = false := by rfl) :
    PMk X (.Call (.Name x p) [e, e2] [] pos) (tMk2 C f1 f2 t) := by
  intro pins s σ H Q I h
  refine wpAny_Call_Name_kw (ld_glob I hg hm ?_ hdb)
  refine PySem.W.callWith_K (h₀ := X.base) I.ok.mod.kin T.kp (thn (ha.run pos pins s σ H _ I h) ?_) hst hpl
  rintro us s1 ⟨vs, H1, I1, r1, v1, v2, rfl, q1⟩
  refine ⟨I1.kIn, ?_⟩
  show wpAny _ _ (call (.ref C) us) _ _ _
  obtain ⟨B, nI, iI, bmB, BF, _, ii, _⟩ := T.base
  obtain ⟨nm, N', qn, bs, bm, hdct, sn, sub, ab, col, dd, k0, k1, k2, k3, k5, cl, hT⟩ := PySem.W.excInit_of I1.kIn ii
  obtain ⟨hp, g', dr, tk', os⟩ := s1
  have big : hp.objs.size ≤ hp.objs.size + 1 := Nat.le_succ _
  have na : H1 (hp.objs.size + 1) = none := I1.hok.fresh big
  have keep : ∀ b o, hp.get? b = some o → ((hp.push (PySem.W.kdv_tup us)).push (PySem.PX.excO C hp.objs.size)).get? b = some o := fun b o e =>
    Heap.get?_push_of_some _ (Heap.get?_push_of_some _ e)
  have new : ((hp.push (PySem.W.kdv_tup us)).push (PySem.PX.excO C hp.objs.size)).get? (hp.objs.size + 1) = some (PySem.PX.excO C hp.objs.size) := by heap_get
  have I2 := I1.laid (t' := tk') (a := hp.objs.size + 1) (o := exo (hp.objs.size + 1) C none) keep big (exo_ok new)
  have r2 : Vals [V.ref (hp.objs.size + 1), v1, v2] (Value.ref (hp.objs.size + 1) :: us) := .cons rfl r1
  have hq : spI2 C f1 f2 [V.ref (hp.objs.size + 1), v1, v2] (upd H1 (hp.objs.size + 1) (exo (hp.objs.size + 1) C none))
      (fun r H2 => r = .non ∧ ∃ dx, dx ≠ hp.objs.size + 1 ∧ upd H1 (hp.objs.size + 1) (exo (hp.objs.size + 1) C none) dx = none ∧
        H2 = upd (upd (upd (upd H1 (hp.objs.size + 1) (exo (hp.objs.size + 1) C none)) dx (exd dx [(f1, v1)])) (hp.objs.size + 1) (exo (hp.objs.size + 1) C (some dx))) dx (exd dx [(f2, v2), (f1, v1)])) (fun _ _ _ => False) :=
    ⟨_, v1, v2, rfl, upd_same, fun dx nd ne => ⟨rfl, dx, ne, nd, rfl⟩⟩
  have bl := hb.to ⟨_, g', dr, tk', os⟩ (Value.ref (hp.objs.size + 1)) us [] I2.kIn (by rw [← r2.length]; rfl)
  refine wpAny_call (PySem.Xg.kw_call BF hT cl (PySem.W.looks_findIn I1.kIn T.ini) (fun self => PySem.W.bind_fn I1.kIn self T.tf) ?_ (codeAny_mono (F.run _ X.stack _ _ _ _ _ _ _ (hr.make C us []) (I2.env0.make C us []) bl r2 hq) ?_))
  · rw [← r1.length, sizeLine_eq]
    show 2 ≤ 16777216
    decide
  · rintro (er | (_ | _ | _ | u)) s' z
    · exact (show False from z).elim
    · exact z.elim
    · exact z.elim
    · exact z.elim
    · obtain ⟨r, H2, os2, bare2, un2, hok2, rv, er, dx, ne, nd, e2⟩ := z
      subst er
      obtain ⟨h2, g2, d2, t2, os'⟩ := s'
      subst e2
      refine ⟨rv, mk_end (raises_own T.ex ty) I1 big keep un2 hok2 os2 bare2 ((upd_ne ne.symm).trans upd_same) upd_same ((upd_ne ne).symm.trans nd) ?_⟩
      rw [del_made2 na ne]
      exact q1 dx ((upd_ne ne).symm.trans nd)
/-- raise C(e, e2) -/
theorem ps_raise2 {W : WX} {t : TA} {rp : Pos} (hc : X.calm = true) (tk : Takes X W) (T : XIn X.K C fI) (ty : PySem.W.typeIn X.K (.ref C) = some (.type "type")) (F : FnOk X.prog X.w X.K X.mg X.base CX0 1 fI fd ["self", f1, f2] (spI2 C f1 f2)) (hr : Room 2 X.A)
    (hb : XB X.K fd ["self", f1, f2] [] (fun us _ => us) (fun vs _ => vs)) (hg : Gl X x) (hm : X.mg x = some (.ref C)) (ha : PA X [e, e2] t)
    (hdb : (x == ("__debug__" : Str)) = false := by decide) (hst : starEach [e, e2] X.env = (false, eval e X.env) :: starEach [e2] X.env := by rfl) (hpl : (backTo pos (starEach [e2] X.env)).any (·.1) = false := by rfl) :
    PS X (.Raise (some (.Call (.Name x p) [e, e2] [] pos)) none rp) (fun _ σ H => tMk2 C f1 f2 t σ H fun cls d H' => W cls d σ H') :=
  ps_raise hc tk (pmk_x2 T ty F hr hb hg hm ha hdb hst hpl)
end
end Xl
namespace My
open PySem PySem.Spec PyProof.Rows L2 Gy Xl Xs Xt
/-- a class of errors with two fields: raised -/
structure Rz2 (P : Program) (w : World) (K : PySem.W.Frag) (mg : Str → Option Value) (base : Heap) (nm f1 f2 : Str) (C : Addr) : Prop where
  gm : mg nm = some (.ref C)
  ty : PySem.W.typeIn K (.ref C) = some (.type "type")
  ex : ∃ (fI : Addr) (fd : FuncData), XIn K C fI ∧ FnOk P w K mg base CX0 1 fI fd ["self", f1, f2] (spI2 C f1 f2) ∧ XB K fd ["self", f1, f2] [] (fun us _ => us) (fun vs _ => vs)
/-- what is wanted where C(v1, v2) is raised -/
def Ro2 (E : XK) (C : Addr) (f1 f2 : Str) (v1 v2 : V) (H : Hp) : Prop := ∀ H' dx, Same H H' → H' dx = some (.xd [(f2, v2), (f1, v1)]) → E (.ref C) (some dx) H'
theorem Ro2.same {E : XK} {C : Addr} {f1 f2 : Str} {v1 v2 : V} {H H1 : Hp} (h : Ro2 E C f1 f2 v1 v2 H) (s : Same H H1) : Ro2 E C f1 f2 v1 v2 H1 := fun H' dx s1 e => h H' dx (s.trans s1) e
/-- xs[i](e, ..): one of several defs -/
def tCallIx (S : Addr → Option Sp) (tf : TE) (t : TA) : TE := fun σ H Q => tf σ H fun v H1 => ∃ f sp, v = .ref f ∧ S f = some sp ∧ t σ H1 fun vs H2 => sp vs H2 Q (fun _ _ _ => False)
theorem pe_callIx {X : Cx} {k : Nat} {S : Addr → Option Sp} {a b e : Expr} {es : List Expr} {tf : TE} {t : TA} {p pos : Pos} (A : ∀ f sp, S f = some sp → Held X.prog X.w X.K X.mg X.base k f sp) (hr : Room k X.A) (hf : PE X (.Subscript a b p) tf) (ha : PA X (e :: es) t)
    (he : starEach (e :: es) X.env = (false, eval e X.env) :: starEach es X.env := by rfl) (hpl : (backTo pos (starEach es X.env)).any (·.1) = false := by rfl) : PE X (.Call (.Subscript a b p) (e :: es) [] pos) (tCallIx S tf t) := by
  refine ⟨fun pins s σ H Q I h => ?_⟩
  rw [show eval (.Call (.Subscript a b p) (e :: es) [] pos) X.env = (do callWith pos (← eval (.Subscript a b p) X.env) [] (backTo pos (starEach (e :: es) X.env)) (backToKw pos (keywordEach [] X.env))) from rfl]
  refine wpAny_bind (thn (hf.run pins s σ H _ I h) fun u s1 ⟨v, H1, I1, r1, f, sp, ev, hS, q1⟩ => ?_)
  subst ev
  cases r1
  obtain ⟨fd, ps, F, hk, hb⟩ := (A f sp hS).ex
  refine PySem.W.callWith_K (h₀ := X.base) I.ok.mod.kin hk (thn (ha.run pos pins s1 σ _ _ I1 q1) fun us s2 ⟨vs, H2, I2, r, q⟩ => ⟨I2.kIn, ?_⟩) he hpl
  have q' : sp (vs ++ []) H2 Q (fun _ _ _ => False) := by
    rw [List.append_nil]
    exact q
  exact run_fn F hr hb .nil (fun _ _ _ _ _ _ _ z => z.elim) I2 r q'
theorem Held.of {P : Program} {w : World} {K : PySem.W.Frag} {mg : Str → Option Value} {base : Heap} {k j : Nat} {f : Addr} {nm : Str} {ps : List Str} {sp : Sp} (F : Fk P w K mg base CX0 j nm ps sp) (h : j ≤ k) (m : mg nm = some (.ref f)) : Held P w K mg base k f sp := by
  obtain ⟨g, fd, m', kp, b, G⟩ := F.ex
  rw [m] at m'
  cases m'
  exact ⟨fd, ps, G.mono h, kp, b⟩
/-- f(e, ..) in a try -/
theorem pe_callSF {X : Cx} {CX : CXT} {k : Nat} {ps : List Str} {sp : Sp} {E : L2.St → XK} {x : Str} {p pos : Pos} {e : Expr} {es : List Expr} {t : TA} (F : Fk X.prog X.w X.K X.mg X.base CX k x ps sp) (hr : Room k X.A) (hg : Gl X x) (hx : ∀ σ, PassesAt CX X σ (E σ)) (ha : PA X (e :: es) t)
    (hdb : (x == ("__debug__" : Str)) = false := by decide) (he : starEach (e :: es) X.env = (false, eval e X.env) :: starEach es X.env := by rfl)
    (hpl : (backTo pos (starEach es X.env)).any (·.1) = false := by rfl) : PE X (.Call (.Name x p) (e :: es) [] pos) (tCallSD sp [] E t) := by
  obtain ⟨f, fd, m, kp, b, G⟩ := F.ex
  exact pe_callSD G hr hg m kp b .nil hx ha hdb he hpl
/-- what is known of a class of errors that is caught -/
structure Xc (K : PySem.W.Frag) (C R : Addr) : Prop where
  x : XCl K C
  em : PySem.W.exmOne K (.ref C) (.ref C) = some true
  ki : PySem.W.kitOne K (.ref C) (.ref R) = some true
theorem Xc.xf {K : PySem.W.Frag} {C R : Addr} (h : Xc K C R) : XfC K C := ⟨h.x.ga, h.x.gg, h.x.ex, h.x.hd⟩
/-- the class of an object, as the built-in isinstance asks for it -/
structure Cg (K : PySem.W.Frag) : Prop where
  cg : PySem.W.specialIn K (.builtin "object.__class__") "__get__" = some (some (.builtin "getset_descriptor.__get__"))
  ct : PySem.W.takesIn K (.builtin "object.__class__") = some true
end My

/-! Defs that are called with keywords. -/
namespace My
open PySem PySem.Spec PyProof.Rows L2 Gy Xl Xs Xt
/-- a def of the top: n values by position, keywords ks; gV puts them into the parameters' order -/
structure Fw (P : Program) (w : World) (K : PySem.W.Frag) (mg : Str → Option Value) (base : Heap) (CX : CXT) (k : Nat) (nm : Str) (ps : List Str) (n : Nat) (ks : List Str) (gV : List V → List V → List V) (sp : Sp) : Prop where
  ex : ∃ (f : Addr) (fd : FuncData) (g : List Value → List Value → List Value), mg nm = some (.ref f) ∧ PySem.W.keepIn K (.ref f) = true ∧ KBn K fd ps n ks g gV ∧ FnOk P w K mg base CX k f fd ps sp
section
variable {X : Cx} {CX : CXT} {k n : Nat} {ps ks : List Str} {sp : Sp} {E : XK} {x : Str} {p pos : Pos} {e : Expr} {es : List Expr} {kws : List Keyword} {t tk : TA} {gV : List V → List V → List V}
theorem pe_callNF (F : Fw X.prog X.w X.K X.mg X.base CX k x ps n ks gV sp) (hr : Room k X.A) (hg : Gl X x) (hx : Passes CX X E) (ha : PA X (e :: es) t) (hkw : PK X kws tk)
    (hall : (backToKw pos (keywordEach kws X.env)).all (·.1.isSome) = true := by rfl) (hks : (backToKw pos (keywordEach kws X.env)).filterMap (·.1) = ks := by rfl) (hdb : (x == ("__debug__" : Str)) = false := by decide)
    (he : starEach (e :: es) X.env = (false, eval e X.env) :: starEach es X.env := by rfl) (hpl : ((backTo pos (starEach (e :: es) X.env)).any (·.1) || (backToKw pos (keywordEach kws X.env)).any (·.1.isNone)) = false := by rfl) :
    PE X (.Call (.Name x p) (e :: es) kws pos) (tCallN n ks.length sp gV E t tk) := by
  obtain ⟨f, fd, g, m, kp, b, G⟩ := F.ex
  exact pe_callN G hr hg m kp b hx ha hkw hall hks hdb he hpl
/-- f(k = v, ..) -/
def tCall0 (m : Nat) (sp : Sp) (gV : List V → List V → List V) (E : XK) (tk : TA) : TE := fun σ H Q => tk σ H fun zs H2 => zs.length = m ∧ sp (gV [] zs) H2 Q E
theorem pe_call0F (F : Fw X.prog X.w X.K X.mg X.base CX k x ps 0 ks gV sp) (hr : Room k X.A) (hg : Gl X x) (hx : Passes CX X E) (hkw : PK X kws tk)
    (hall : (backToKw pos (keywordEach kws X.env)).all (·.1.isSome) = true := by rfl) (hks : (backToKw pos (keywordEach kws X.env)).filterMap (·.1) = ks := by rfl) (hdb : (x == ("__debug__" : Str)) = false := by decide)
    (hpl : ((backTo pos (starEach [] X.env)).any (·.1) || (backToKw pos (keywordEach kws X.env)).any (·.1.isNone)) = false := by rfl) :
    PE X (.Call (.Name x p) [] kws pos) (tCall0 ks.length sp gV E tk) := by
  obtain ⟨f, fd, g, m, kp, b, G⟩ := F.ex
  constructor
  intro pins s σ H Q I h
  refine wpAny_Call_Name_kw (ld_glob I hg m ?_ hdb)
  refine PySem.W.callWith_KW0 (h₀ := X.base) I.ok.mod.kin kp hall (thn (hkw.run pos pins s σ H _ I h) ?_) hpl
  rintro ws s2 ⟨zs, H2, I2, rz, l2, q2⟩
  rw [hks]
  exact ⟨I2.kIn, run_fnN (us := []) G hr b hx I2 .nil rz rfl l2 q2⟩
end
theorem vals_back : ∀ {xs : List V} {us : List Value}, Vals xs us → Vals xs.reverse us.reverse
  | _, _, .nil => .nil
  | _, _, .cons h t => by
    rw [List.reverse_cons, List.reverse_cons]
    exact (vals_back t).append (.cons h .nil)
/-- the keywords in the parameters' order, or turned about -/
theorem kbn_fwd {K : PySem.W.Frag} {x qual : Str} {st : Stmt} {f : Addr} {fd : FuncData} {ps ks : List Str} {n : Nat} (F : Fun K x qual st f fd)
    (h : ∀ (kV doc pm : Value) (an : Option Addr) (cdv ct : Value) (us ws : List Value), us.length = n → ws.length = ks.length → bindArgs (PySem.W.fnOf x qual (defArgs st) (defBody st) (defScope st) .none kV doc pm an cdv ct) ⟨us, ks.zip ws⟩ = pure (ps.zip (us ++ ws))) :
    KBn K fd ps n ks (fun us ws => us ++ ws) (fun vs zs => vs ++ zs) := by
  obtain ⟨oc, od, kV, doc, pm, an, cdv, ct, osl, rfl, lk, hcd⟩ := F.ex
  exact ⟨fun s us ws _ h1 h2 => .of_eq (h kV doc pm an cdv ct us ws h1 h2), fun r z => r.append z⟩
theorem kbn_back {K : PySem.W.Frag} {x qual : Str} {st : Stmt} {f : Addr} {fd : FuncData} {ps ks : List Str} {n : Nat} (F : Fun K x qual st f fd)
    (h : ∀ (kV doc pm : Value) (an : Option Addr) (cdv ct : Value) (us ws : List Value), us.length = n → ws.length = ks.length → bindArgs (PySem.W.fnOf x qual (defArgs st) (defBody st) (defScope st) .none kV doc pm an cdv ct) ⟨us, ks.zip ws⟩ = pure (ps.zip (us ++ ws.reverse))) :
    KBn K fd ps n ks (fun us ws => us ++ ws.reverse) (fun vs zs => vs ++ zs.reverse) := by
  obtain ⟨oc, od, kV, doc, pm, an, cdv, ct, osl, rfl, lk, hcd⟩ := F.ex
  exact ⟨fun s us ws _ h1 h2 => .of_eq (h kV doc pm an cdv ct us ws h1 h2), fun r z => r.append (vals_back z)⟩
end My

namespace My
open PySem PySem.Spec PyProof.Rows L2 Gy Xl Xs Xt
/-! ### how a host forwards -/
def fresh (xs : List Str) : Option Str → Bool
  | none => true
  | some s => !inV (.str s) (xs.map V.str)
def endB (o m : Bool) : V := if (o && !m) = true then .non else .int 0
def fwd (xs : List Str) (c j : Nat) (ph : Str) (src : Option Str) (g : Str) (b : Int) : V :=
  if (!decide (V.str ph = V.str "turned")) = true then .int 0
  else if decide (V.int (j : Int) = V.int 0) = true then endB (decide (V.str g = V.str (fromEnd xs 1))) (fresh xs src || (decide (optV src = V.str (xs.getD 1 "")) && decide (V.int b = V.int 1)))
  else if decide (V.int (j : Int) = V.int ((xs.length : Int) - 1)) = true then endB (decide (V.str g = V.str (xs.getD 0 ""))) (fresh xs src || (decide (optV src = V.str (fromEnd xs 2)) && decide (V.int b = V.int 1)))
  else if (!decide (V.str g = V.str (if decide ((j : Int) ≤ (c : Int)) = true then xs.getD (j - 1) "" else xs.getD (j + 1) ""))) = true then .int 0
  else if fresh xs src = true then .int 1 else .int b
section
variable {P : Program} {w : World} {K : PySem.W.Frag} {mg : Str → Option Value} {base : Heap} {H : Hp}
def spEnd : Sp := fun vs H Q _ => ∃ o m : Bool, vs = [.bl o, .bl m] ∧ Q (endB o m) H
theorem ok_end {f : Addr} {fd : FuncData} (F : Fun K "end_bit" "end_bit" s_end_bit f fd) : FnOk P w K mg base CX0 1 f fd ["is_over_new_link", "may_cross"] spEnd := by
  refine F.ok sc_end_bit (fun vs H Q E h => ?_) (fun cdv A outer s H vs Q E hr h => ?_)
  · obtain ⟨o, m, rfl, _⟩ := h
    rfl
  · obtain ⟨o, m, rfl, q⟩ := h
    refine ⟨_, (pss_one (ps_ret (pe_ifExp (PW.pt (pw_and (pt_val (pv 0)) (pw_and1 (pt_not (pt_val (pv 1)))))) pe_non pe_int))), ?_⟩
    refine ⟨_, rfl, o, rfl, ?_⟩
    cases o with
    | false => exact iteF (iteF q)
    | true =>
      refine iteT ⟨_, rfl, m, rfl, ?_⟩
      cases m with
      | false => exact iteT q
      | true => exact iteF q
/-- a query of a relink and a host, with what more is asked -/
def spFwd (K : PySem.W.Frag) (C U : Addr) : Sp := fun vs H Q E => ∃ (v h : V) (d e : PyData) (ph g : Str) (src : Option Str) (b : Int), vs = [v, h, .str ph, optV src, .str g, .int b] ∧ Dn K H v d ∧ sml d = true ∧ Dn K H h e ∧ sml e = true ∧
  (isRel d = false → Ro E C "value" v H) ∧
  ∀ xs c, d = reld xs c → isRel d = true → (∀ j, posn xs e = some j → ∀ H', Same H H' → Q (fwd xs c j ph src g b) H') ∧ (posn xs e = none → Ro E U "host" h H)
theorem ok_fwd {f C U : Addr} {fd : FuncData} (F : Fun K "forward_bit" "forward_bit" s_forward_bit f fd) (Y : Bn mg) (G_position : Fk P w K mg base (L2.CX P w) 6 "position" ["relink", "host"] (spQh K C U fun j _ => .int (j : Int)))
    (G_end_bit : Fk P w K mg base CX0 1 "end_bit" ["is_over_new_link", "may_cross"] spEnd) : FnOk P w K mg base (L2.CX P w) 7 f fd ["relink", "host", "phase", "source", "goal", "bit"] (spFwd K C U) := by
  refine F.okX sc_forward_bit (fun vs H Q E h => ?_) (fun cdv A outer s H vs Q E hr h => ?_)
  · obtain ⟨v, h, d, e, ph, g, src, b, rfl, _⟩ := h
    rfl
  · obtain ⟨v, h, d, e, ph, g, src, b, rfl, dn, sm, dh, sh, q2, q1⟩ := h
    refine ⟨_, (pss_cons (ps_set (i := 6) sc_forward_bit.nd rfl (.inl rfl) (pe_callF G_position (hr.mono (by decide)) (by rfl) (passes_call (E := E) (takes_of rfl rfl rfl rfl) (fun _ _ _ _ h => h)) (pa_cons (pv 0) (pa_cons (pv 1) pa_nil))))
 (pss_cons (ps_if (pt_cmpR op_ne (pv 2) pe_str (nomark _))
 (pss_one (ps_ret pe_int))
 pss_nil)
 (pss_cons (ps_asg (pv 0) (pg_tup (by rfl) (pgs_cons (pg_name (i := 7) sc_forward_bit.nd rfl (Or.inl rfl)) (pgs_cons (pg_name (i := 8) sc_forward_bit.nd rfl (Or.inl rfl)) pgs_nil))))
 (pss_cons (ps_set (i := 9) sc_forward_bit.nd rfl (.inl rfl) (pe_or (pe_cmpR op_isN (pv 3) pe_non (nomark _)) (pe_one (pe_cmpR op_notIn_seq (pv 3) (pv 7) rfl))))
 (pss_cons (ps_if (pt_cmpR op_eq (pv 6) pe_int (nomark _))
 (pss_one (ps_ret (pe_callF G_end_bit (hr.mono (by decide)) (by rfl) pass0 (pa_cons (pe_cmpR op_eq (pv 4) (pe_ix ix_tup (pv 7) (pe_un un_neg pe_int) (fun _ _ => rfl)) (nomark _)) (pa_cons (pe_or (pv 9) (pe_one (pe_and (pe_cmpR op_eq (pv 3) (pe_ix ix_tup (pv 7) pe_int (fun _ _ => rfl)) (nomark _)) (pe_one (pe_cmpR op_eq (pv 5) pe_int (nomark _)))))) pa_nil)))))
 pss_nil)
 (pss_cons (ps_if (pt_cmpR op_eq (pv 6) (pe_op op_sub (pe_callB call_len_seq (by rfl) Y.len PySem.boot_len (pa_cons (pv 7) pa_nil)) pe_int) (nomark _))
 (pss_one (ps_ret (pe_callF G_end_bit (hr.mono (by decide)) (by rfl) pass0 (pa_cons (pe_cmpR op_eq (pv 4) (pe_ix ix_tup (pv 7) pe_int (fun _ _ => rfl)) (nomark _)) (pa_cons (pe_or (pv 9) (pe_one (pe_and (pe_cmpR op_eq (pv 3) (pe_ix ix_tup (pv 7) (pe_un un_neg pe_int) (fun _ _ => rfl)) (nomark _)) (pe_one (pe_cmpR op_eq (pv 5) pe_int (nomark _)))))) pa_nil)))))
 pss_nil)
 (pss_cons (ps_set (i := 10) sc_forward_bit.nd rfl (.inl rfl) (pe_ifExp (pt_cmpR op_le (pv 6) (pv 8) (nomark _)) (pe_ix ix_tup (pv 7) (pe_op op_sub (pv 6) pe_int) (fun _ _ => rfl)) (pe_ix ix_tup (pv 7) (pe_op op_add (pv 6) pe_int) (fun _ _ => rfl))))
 (pss_cons (ps_if (pt_cmpR op_ne (pv 4) (pv 10) (nomark _))
 (pss_one (ps_ret pe_int))
 pss_nil)
 (pss_one (ps_ret (pe_ifExp (pt_val (pv 9)) pe_int (pv 5)))))))))))), ?_⟩
    refine ⟨_, rfl, _, rfl, v, h, d, e, rfl, dn, sm, dh, sh, q2, fun xs c ed ir => ?_⟩
    obtain ⟨q3, q4⟩ := q1 xs c ed ir
    refine ⟨fun j hj H1 s1 => ?_, q4⟩
    obtain ⟨xs', c', ed', l3, nd, cl, ah⟩ := rel_parts ir
    obtain ⟨rfl, rfl⟩ : xs' = xs ∧ c' = c := by
      rw [ed] at ed'
      obtain ⟨e1, e2⟩ := reld_inj ed'
      exact ⟨e1.symm, e2.symm⟩
    subst ed
    obtain ⟨ra, rb, rfl, ha, hb⟩ := rel_heap dn
    have ha1 := ha.same s1
    have hb1 := hb.same s1
    have jl := posn_lt hj
    have q := q3 j hj H1 s1
    unfold fwd at q
    clear q1 q2 q3 q4
    refine ⟨_, rfl, rfl, _, rfl, ite2 (fun c1 => ?_) (fun c1 => ?_)⟩
    · rw [if_pos c1] at q
      exact q
    rw [if_neg c1] at q
    refine ⟨_, rfl, ra, _, rfl, ha1.sq, rfl, _, _, rfl, _, _, rfl, rfl, ?_⟩
    refine ⟨_, rfl, rfl, _, rfl, ?_⟩
    cases hsrc : src
    case' none =>
      refine iteT ?_
    case' some s =>
      refine iteF ?_
      refine ⟨_, rfl, _, rfl, rb, _, rfl, .inr hb1.sq, rfl, flat_strs _, ?_⟩
    all_goals
      refine ⟨_, rfl, rfl, _, rfl, ite2 (fun c2 => ?_) (fun c2 => ?_)⟩
      · rw [if_pos c2] at q
        refine ⟨_, rfl, _, rfl, 1, rfl, rb, _, -1, _, rfl, rfl, hb1.sq, at_end (by omega), rfl, ?_⟩
        refine ⟨_, rfl, _, rfl, ite2 (fun c3 => ?_) (fun c3 => ?_)⟩
        · have c3' : fresh xs' src = true := by rw [hsrc]; exact c3
          rw [c3', Bool.true_or] at q
          exact ⟨_, _, rfl, q⟩
        · have c3' : fresh xs' src = false := by rw [hsrc]; exact Bool.eq_false_iff.mpr c3
          rw [c3', Bool.false_or, hsrc] at q
          refine ⟨_, rfl, _, rfl, rb, _, 1, _, rfl, rfl, hb1.sq, at_nat (i := 1) (by omega), rfl, _, rfl, ite2 (fun c4 => ?_) (fun c4 => ?_)⟩
          · rw [c4, Bool.true_and] at q
            exact ⟨_, rfl, rfl, _, _, rfl, q⟩
          · rw [Bool.eq_false_iff.mpr c4, Bool.false_and] at q
            exact ⟨_, _, rfl, q⟩
      rw [if_neg c2] at q
      refine ⟨_, rfl, _, rfl, rb, _, rfl, .inr hb1.sq, _, _, rfl, rfl, rfl, _, rfl, ?_⟩
      rw [List.length_map]
      refine ite2 (fun c3 => ?_) (fun c3 => ?_)
      · rw [if_pos c3] at q
        refine ⟨_, rfl, _, rfl, rb, _, 0, _, rfl, rfl, hb1.sq, at_nat (i := 0) (by omega), rfl, ?_⟩
        refine ⟨_, rfl, _, rfl, ite2 (fun c3 => ?_) (fun c3 => ?_)⟩
        · have c3' : fresh xs' src = true := by rw [hsrc]; exact c3
          rw [c3', Bool.true_or] at q
          exact ⟨_, _, rfl, q⟩
        · have c3' : fresh xs' src = false := by rw [hsrc]; exact Bool.eq_false_iff.mpr c3
          rw [c3', Bool.false_or, hsrc] at q
          refine ⟨_, rfl, _, rfl, 2, rfl, rb, _, -2, _, rfl, rfl, hb1.sq, at_end2 (by omega), rfl, _, rfl, ite2 (fun c4 => ?_) (fun c4 => ?_)⟩
          · rw [c4, Bool.true_and] at q
            exact ⟨_, rfl, rfl, _, _, rfl, q⟩
          · rw [Bool.eq_false_iff.mpr c4, Bool.false_and] at q
            exact ⟨_, _, rfl, q⟩
      rw [if_neg c3] at q
      have j0 : j ≠ 0 := fun z => c2 (decide_eq_true (by rw [z]; rfl))
      have j1 : j + 1 < xs'.length := by
        have : ¬ (j : Int) = (xs'.length : Int) - 1 := fun z => c3 (decide_eq_true (by show V.int (j : Int) = V.int ((xs'.length : Int) - 1); rw [z]))
        omega
      refine ⟨_, rfl, _, rfl, _, _, rfl, rfl, _, rfl, ite2 (fun c4 => ?_) (fun c4 => ?_)⟩
      · rw [if_pos c4] at q
        refine ⟨_, rfl, _, rfl, _, _, rfl, rfl, rb, _, _, _, rfl, rfl, hb1.sq, (by rw [show (j : Int) - 1 = ((j - 1 : Nat) : Int) by omega]; exact at_nat (i := j - 1) (by omega)), ?_⟩
        refine ⟨_, rfl, _, rfl, rfl, _, rfl, ite2 (fun c5 => ?_) (fun c5 => ?_)⟩
        · rw [if_pos c5] at q
          exact q
        · rw [if_neg c5] at q
          refine ⟨_, rfl, _, rfl, ite2 (fun c6 => ?_) (fun c6 => ?_)⟩
          · have c6' : fresh xs' src = true := by rw [hsrc]; exact c6
            rw [if_pos c6'] at q
            exact q
          · have c6' : ¬ fresh xs' src = true := by rw [hsrc]; exact c6
            rw [if_neg c6'] at q
            exact ⟨_, rfl, q⟩
      · rw [if_neg c4] at q
        refine ⟨_, rfl, _, rfl, _, _, rfl, rfl, rb, _, _, _, rfl, rfl, hb1.sq, (by rw [show (j : Int) + 1 = ((j + 1 : Nat) : Int) by omega]; exact at_nat (i := j + 1) (by omega)), ?_⟩
        refine ⟨_, rfl, _, rfl, rfl, _, rfl, ite2 (fun c5 => ?_) (fun c5 => ?_)⟩
        · rw [if_pos c5] at q
          exact q
        · rw [if_neg c5] at q
          refine ⟨_, rfl, _, rfl, ite2 (fun c6 => ?_) (fun c6 => ?_)⟩
          · have c6' : fresh xs' src = true := by rw [hsrc]; exact c6
            rw [if_pos c6'] at q
            exact q
          · have c6' : ¬ fresh xs' src = true := by rw [hsrc]; exact c6
            rw [if_neg c6'] at q
            exact ⟨_, rfl, q⟩
end
end My

namespace My
open PySem PySem.Spec PyProof.Rows L2
/-! ### a list of texts has one sorted arrangement -/
def leS (a b : Str) : Prop := a.cps.toList ≤ b.cps.toList
theorem leS_of {a b : Str} (h : ltCps b.cps.toList a.cps.toList = false) : leS a b := by
  rw [ltCps_eq] at h
  exact List.not_lt.mp (of_decide_eq_false h)
theorem rise_all : ∀ {r : List Str} {p : Str}, risingS p r = true → (∀ x ∈ r, leS p x) ∧ r.Pairwise leS
  | [], _, _ => ⟨fun _ z => (nomatch z), List.Pairwise.nil⟩
  | x :: r, p, h => by
    have h2 : (!ltCps x.cps.toList p.cps.toList) = true ∧ risingS x r = true := by simpa only [risingS, Bool.and_eq_true] using h
    obtain ⟨a, b⟩ := rise_all h2.2
    have px : leS p x := leS_of (by simpa using h2.1)
    refine ⟨fun y hy => ?_, List.Pairwise.cons a b⟩
    rcases List.mem_cons.mp hy with rfl | hy
    · exact px
    · exact List.le_trans px (a y hy)
theorem sorted_pw {ys : List Str} (h : sortedS ys = true) : ys.Pairwise leS := by
  cases ys with
  | nil => exact List.Pairwise.nil
  | cons x r =>
    obtain ⟨a, b⟩ := rise_all (show risingS x r = true from h)
    exact List.Pairwise.cons a b
theorem leS_anti {a b : Str} (h1 : leS a b) (h2 : leS b a) : a = b := by
  have e := List.le_antisymm h1 h2
  cases a with
  | mk ca =>
    cases b with
    | mk cb =>
      have e' : ca.toList = cb.toList := e
      rw [Array.toList_inj.mp e']
theorem sort_one : ∀ {ys zs : List Str}, ys.Perm zs → ys.Pairwise leS → zs.Pairwise leS → ys = zs
  | [], zs, p, _, _ => (List.Perm.eq_nil p.symm).symm
  | y :: ys, [], p, _, _ => absurd (List.Perm.eq_nil p) (by simp)
  | y :: ys, z :: zs, p, h1, h2 => by
    have e : y = z := by
      have m1 : y ∈ z :: zs := p.mem_iff.mp List.mem_cons_self
      have m2 : z ∈ y :: ys := p.mem_iff.mpr List.mem_cons_self
      rcases List.mem_cons.mp m1 with e | m1
      · exact e
      · rcases List.mem_cons.mp m2 with e | m2
        · exact e.symm
        · exact leS_anti ((List.pairwise_cons.mp h1).1 z m2) ((List.pairwise_cons.mp h2).1 y m1)
    subst e
    rw [sort_one (List.perm_cons y |>.mp p) (List.pairwise_cons.mp h1).2 (List.pairwise_cons.mp h2).2]
theorem sort_uniq {ys zs ls : List Str} (p1 : ys.Perm ls) (s1 : sortedS ys = true) (p2 : zs.Perm ls) (s2 : sortedS zs = true) : ys = zs := sort_one (p1.trans p2.symm) (sorted_pw s1) (sorted_pw s2)
end My

/-! sorted of a tuple of texts. -/
namespace Xt
open PySem PySem.Spec PyProof.Rows L2 Gy
section
variable {prog : Program} {w : World} {A : Around} {E : Value → Shared → Prop} {s : Shared}
theorem isTup_get {h : Heap} {a : Addr} {xs : Array Value} (t : h.IsTuple a xs) : ∃ o n, h.get? a = some o ∧ o.cls = .type "tuple" ∧ o.data = .seq xs n := by
  obtain ⟨o, ho, hc, n, hd⟩ := t
  exact ⟨o, n, ho, hc, hd⟩
/-- the heap behind the items of a tuple were taken -/
def took (h : Heap) (vs : List Value) : Heap := Heap.update (h.push (seqObj "list" #[] 0)) h.objs.size (Obj.mapSeq (· ++ vs.toArray))
theorem collect_tup {l : Addr} {vs : List Value} {o : Obj} {n : Nat} {Q : List Value → Shared → Prop} (ho : s.heap.get? l = some o) (hc : o.cls = .type "tuple") (hd : o.data = .seq vs.toArray n) (hz : vs.length ≤ sizeLine)
    (h : Q vs { s with heap := took s.heap vs }) : wpAny (model prog w) A (collect (.ref l)) Q E s := by
  unfold collect
  have new := Heap.get?_push_size (h := s.heap) (o := seqObj "list" #[] 0)
  refine wpAny_bind (wpAny_runValue (codeAny_builtin entry_proto_collect' ?_))
  show wpAny _ _ (newList [] >>= fun r => again (.builtin "list.__iadd__" ⟨[r, .ref l], []⟩)) _ _ s
  refine wpAny_bind (wpAny_newList (wpAny_pure ⟨Code.quiet_builtin _ (by decide +kernel), codeAny_builtin entry_list_iadd' ?_⟩))
  refine (?_ : wpAny _ _ (Builtin.List.listExtendWith _ (.ref l) _) _ _ _)
  unfold Builtin.List.listExtendWith
  have hold : Heap.get? (s.heap.push (seqObj "list" #[] 0)) l = some o := Heap.get?_push_of_some _ ho
  refine wpAny_bind (wpAny_typeOf (T := "tuple") ⟨o, hold, hc⟩ ?_)
  rw [if_pos (by rw [show (Value.type "tuple" == Value.type "tuple") = true by rfl]; simp)]
  refine wpAny_bind (listItems_at hold hd ?_)
  refine wpAny_bind (listItems_at (n := 0) (xs := #[]) (Heap.get?_push_size s.heap rfl) rfl ?_)
  rw [if_neg (by simp)]
  refine wpAny_bind (listUpdate_at (n := 0) (xs := #[]) (Heap.get?_push_size s.heap rfl) rfl ?_ (Nat.zero_le _) ?_)
  · refine wpAny_pure ?_
    refine wpAny_bind (wpAny_load (get?_update_seq (Heap.get?_push_size s.heap rfl) _) ?_)
    refine wpAny_pure ?_
    have e : ((#[] : Array Value) ++ vs.toArray).toList = vs := by simp
    rw [e]
    exact h
  · rw [Array.size_append, List.size_toArray]
    show 0 + vs.length ≤ sizeLine + 1
    omega
theorem sorted_tup {l : Addr} {vs : List Value} {ss : List Str} {o : Obj} {n : Nat} {Q : Value → Shared → Prop} (ho : s.heap.get? l = some o) (hc : o.cls = .type "tuple") (hd : o.data = .seq vs.toArray n) (hS : StrsAre vs ss) (h64 : vs.length < 64)
    (h : ∀ (out : Array Value) (zs : List Str), StrsAre out.toList zs → zs.Perm ss → sortedS zs = true → Q (.ref (s.heap.objs.size + 1)) { s with heap := sortedAll s.heap vs out }) :
    wpAny (model prog w) A (call (.builtin "sorted") [.ref l]) Q E s := by
  refine Calls.call_function_entry kind_sorted plain_sorted entry_sorted (args_sorted1 _) ?_
  unfold Builtin.«sorted»
  refine wpAny_bind (m := checkCount "sorted" 1 1 _) (wpAny_pure ?_)
  refine wpAny_bind (collect_tup ho hc hd (small64 h64) ?_)
  refine wpAny_bind (wpAny_newList ?_)
  have sz : (took s.heap vs).objs.size = s.heap.objs.size + 1 := (Heap.size_update ..).trans (size_push' ..)
  have at1 : Heap.get? ((took s.heap vs).push (seqObj "list" vs.toArray 0)) (s.heap.objs.size + 1) = some (seqObj "list" vs.toArray 0) := by
    rw [← sz]
    exact Heap.get?_push_size _ rfl
  refine (?_ : wpAny _ _ _ _ _ { s with heap := (took s.heap vs).push (seqObj "list" vs.toArray 0) })
  dsimp only
  rw [sz]
  refine wpAny_bind (wpAny_holding (wpAny_call_entry slot_list_sort ⟨_, at1, rfl⟩ entry_list_sort (list_sort_treeK strKind_oneLt at1 hS.keysOf (fun v₁ v₂ rest e => keyKind_strs (by rw [← e]; exact hS)) h64 fun st hp hs => ⟨_, rfl, ?_⟩) (args_list_sort _)))
  obtain ⟨zs, h1, h2, h3⟩ := sorted_out_str hS hp hs
  exact wpAny_pure ⟨_, rfl, h _ zs h1 h2 h3⟩
end
section
variable {X : Cx}
/-- sorted of a list or a tuple of texts -/
def rSortX (K : PySem.W.Frag) : List V → Hp → VK → Prop := fun vs H Q => ∃ (a : Addr) (xs : List Str), vs = [.ref a] ∧ (SqL K H a (xs.map V.str) ∨ SqT K H a (xs.map V.str)) ∧ xs.length < 64 ∧
  ∀ (ys : List Str) (p : Addr), ys.Perm xs → sortedS ys = true → H p = none → Q (.ref p) (upd H p (.lst (ys.map V.str)))
theorem cr_sortX : CallR X (.builtin "sorted") (rSortX X.K) := by
  intro pins s σ H vs us Q I r h
  obtain ⟨a, xs, rfl, hs | hs, h64, q⟩ := h
  · exact cr_sortedS pins s σ H _ us Q I r ⟨a, xs, rfl, hs, h64, q⟩
  · obtain ⟨its, rv, ⟨o, ho, hc, n, hd⟩, _⟩ := I.tuple hs
    rw [Vals.ref1 r]
    have len := rv.length
    rw [List.length_map] at len
    refine sorted_tup ho hc hd rv.strs (by rw [← len]; exact h64) fun out ys h1 h2 h3 => ?_
    obtain ⟨ep, he⟩ := PyProof.Rows.sortedAll_at s.heap its out
    have lz : (ys.map V.str).length ≤ sizeLine := by
      rw [List.length_map, h2.length_eq]
      exact small64 h64
    exact ⟨.ref _, upd H (s.heap.objs.size + 1) (.lst (ys.map V.str)), I.laid (t' := s.toks) (fun _ _ => PyProof.Rows.sortedAll_old) (Nat.le_succ _) ⟨lz, out.toList, ep, vals_of_strs h1, he⟩, rfl, q ys _ h2 h3 (I.hok.fresh (Nat.le_succ _))⟩
end
end Xt

namespace My
open PySem PySem.Spec PyProof.Rows L2 Gy Xl Xs Xt
def Fits (d : PyData) : Prop := d.showable = true ∧ d.depth ≤ 60 ∧ d.shown.length ≤ sizeLine
end My

namespace My
open PySem PySem.Spec PyProof.Rows L2 Gy Xl Xs Xt
structure Dr (H : Hp) (ra pa : Addr) (xs : List Str) (c : Nat) : Prop where
  ra : Tz H ra [.ref pa, .int (c : Int)]
  pa : Tz H pa (xs.map V.str)
  l3 : 3 ≤ xs.length
  cl : c + 2 ≤ xs.length
  nm : ∀ x ∈ xs, Nm x
  nd : xs.Nodup
theorem Dr.same {H H' : Hp} {ra pa : Addr} {xs : List Str} {c : Nat} (h : Dr H ra pa xs c) (s : Same H H') : Dr H' ra pa xs c := ⟨h.ra.same s, h.pa.same s, h.l3, h.cl, h.nm, h.nd⟩
theorem Dr.but {H H' : Hp} {ra pa r : Addr} {xs : List Str} {c : Nat} (h : Dr H ra pa xs c) (R : Rng H r) (b : But r H H') : Dr H' ra pa xs c := ⟨h.ra.but R b, h.pa.but R b, h.l3, h.cl, h.nm, h.nd⟩
end My

namespace My
open PySem PySem.Spec PyProof.Rows L2 Gy Xl Xs Xt
/-! ### what is shown of few and short parts: short, and of signs only -/
theorem so_iff {x : Str} : PyData.strOk x = true ↔ ∀ c ∈ x.cps.toList, c < 0x110000 := by
  unfold PyData.strOk
  rw [← Array.all_toList, List.all_eq_true]
  exact ⟨fun h c hc => of_decide_eq_true (h c hc), fun h c hc => decide_eq_true (h c hc)⟩
theorem so_app {x y : Str} (h1 : PyData.strOk x = true) (h2 : PyData.strOk y = true) : PyData.strOk (x ++ y) = true := by
  rw [so_iff] at *
  intro c hc
  have e : (x ++ y).cps.toList = x.cps.toList ++ y.cps.toList := by
    show (x.cps ++ y.cps).toList = _
    rw [Array.toList_append]
  rw [e, List.mem_append] at hc
  rcases hc with hc | hc
  · exact h1 c hc
  · exact h2 c hc
theorem chr_lt (c : Char) : c.toNat < 0x110000 := by
  have h := c.valid
  rcases h with h | h
  · show c.val.toNat < _
    have : c.val.toNat < 0xd800 := h
    omega
  · exact h.2
theorem so_lit (s : String) : PyData.strOk (Str.ofString s) = true := by
  rw [so_iff, Str.ofString_eq_toList]
  intro c hc
  have hc' : c ∈ s.toList.map Char.toNat := hc
  obtain ⟨d, _, rfl⟩ := List.mem_map.mp hc'
  exact chr_lt d
theorem so_join {sep : Str} (hs : PyData.strOk sep = true) : ∀ {ts : List Str}, (∀ t ∈ ts, PyData.strOk t = true) → PyData.strOk (Str.join sep ts) = true
  | [], _ => by
    rw [so_iff]
    intro c hc
    exact nomatch hc
  | [x], h => h x List.mem_cons_self
  | x :: y :: ts, h => by
    show PyData.strOk (x ++ sep ++ Str.join sep (y :: ts)) = true
    exact so_app (so_app (h x List.mem_cons_self) hs) (so_join hs fun t ht => h t (List.mem_cons_of_mem _ ht))
theorem so_char {q c : Nat} (hq : q < 0x110000) (hc : c < 0x110000) : ∀ d ∈ PySem.Builtin.Str.reprChar q c, d < 0x110000 := by
  have hx : ∀ w : Nat, ∀ d ∈ List.replicate (w - ((Nat.toDigits 16 c).map Char.toNat).length) 48 ++ (Nat.toDigits 16 c).map Char.toNat, d < 0x110000 := by
    intro w d hd
    rcases List.mem_append.mp hd with hd | hd
    · rw [(List.mem_replicate.mp hd).2]
      decide
    · obtain ⟨e, _, rfl⟩ := List.mem_map.mp hd
      exact chr_lt e
  intro d hd
  unfold PySem.Builtin.Str.reprChar at hd
  dsimp only at hd
  split at hd
  · simp only [List.mem_cons, List.not_mem_nil, or_false] at hd
    rcases hd with rfl | rfl
    · decide
    · exact hc
  split at hd
  · simp only [List.mem_cons, List.not_mem_nil, or_false] at hd
    rcases hd with rfl | rfl <;> decide
  split at hd
  · simp only [List.mem_cons, List.not_mem_nil, or_false] at hd
    rcases hd with rfl | rfl <;> decide
  split at hd
  · simp only [List.mem_cons, List.not_mem_nil, or_false] at hd
    rcases hd with rfl | rfl <;> decide
  split at hd
  · rw [List.mem_singleton.mp hd]
    exact hc
  split at hd
  · rcases List.mem_append.mp hd with hd | hd
    · simp only [List.mem_cons, List.not_mem_nil, or_false] at hd
      rcases hd with rfl | rfl <;> decide
    · exact hx 2 d hd
  split at hd
  · rcases List.mem_append.mp hd with hd | hd
    · simp only [List.mem_cons, List.not_mem_nil, or_false] at hd
      rcases hd with rfl | rfl <;> decide
    · exact hx 4 d hd
  · rcases List.mem_append.mp hd with hd | hd
    · simp only [List.mem_cons, List.not_mem_nil, or_false] at hd
      rcases hd with rfl | rfl <;> decide
    · exact hx 8 d hd
theorem so_fold {q : Nat} (hq : q < 0x110000) : ∀ (l : List Nat) (a : Array Nat), (∀ c ∈ l, c < 0x110000) → (∀ c ∈ a.toList, c < 0x110000) → ∀ c ∈ (l.foldl (fun out c => out ++ (PySem.Builtin.Str.reprChar q c).toArray) a).toList, c < 0x110000
  | [], a, _, ha => ha
  | x :: l, a, hl, ha => by
    rw [List.foldl_cons]
    refine so_fold hq l _ (fun c hc => hl c (List.mem_cons_of_mem _ hc)) fun c hc => ?_
    rw [Array.toList_append, List.mem_append] at hc
    rcases hc with hc | hc
    · exact ha c hc
    · exact so_char hq (hl x List.mem_cons_self) c hc
theorem so_repr {x : Str} (h : PyData.strOk x = true) : PyData.strOk (reprText x) = true := by
  have hq : reprQuote x < 0x110000 := by
    unfold reprQuote
    split <;> decide
  rw [so_iff] at *
  intro c hc
  unfold reprText at hc
  rw [Array.toList_push, List.mem_append] at hc
  rcases hc with hc | hc
  · rw [← Array.foldl_toList] at hc
    exact so_fold hq _ _ h (fun d hd => by rw [List.mem_singleton.mp hd]; exact hq) c hc
  · rw [List.mem_singleton.mp hc]
    exact hq
mutual
/-- few and short parts, of signs only -/
def tam : PyData → Bool
  | .str x => decide (x.length ≤ 12) && PyData.strOk x
  | .int i => decide (i.natAbs < 1000)
  | .list ds => decide (ds.length ≤ 14) && tams ds
  | .tuple ds => decide (ds.length ≤ 14) && tams ds
  | .dict kvs => kvs.isEmpty
  | .none => true
  | .bool _ => true
def tams : List PyData → Bool
  | [] => true
  | d :: ds => tam d && tams ds
end
mutual
theorem tam.sml : ∀ {d : PyData}, tam d = true → My.sml d = true
  | .str x, h => by
    have h' : x.length ≤ 12 ∧ PyData.strOk x = true := by simpa only [tam, Bool.and_eq_true, decide_eq_true_eq] using h
    exact decide_eq_true h'.1
  | .int i, h => h
  | .list ds, h => by
    have h' : ds.length ≤ 14 ∧ tams ds = true := by simpa only [tam, Bool.and_eq_true, decide_eq_true_eq] using h
    show (decide (ds.length ≤ 14) && smls ds) = true
    rw [decide_eq_true h'.1, tams.smls h'.2]
    rfl
  | .tuple ds, h => by
    have h' : ds.length ≤ 14 ∧ tams ds = true := by simpa only [tam, Bool.and_eq_true, decide_eq_true_eq] using h
    show (decide (ds.length ≤ 14) && smls ds) = true
    rw [decide_eq_true h'.1, tams.smls h'.2]
    rfl
  | .dict kvs, h => h
  | .none, _ => rfl
  | .bool _, _ => rfl
theorem tams.smls : ∀ {ds : List PyData}, tams ds = true → My.smls ds = true
  | [], _ => rfl
  | d :: ds, h => by
    have h' : tam d = true ∧ tams ds = true := by simpa only [tams, Bool.and_eq_true] using h
    show (My.sml d && My.smls ds) = true
    rw [tam.sml h'.1, tams.smls h'.2]
    rfl
end
mutual
theorem tam.so : ∀ {d : PyData}, tam d = true → PyData.strOk d.shown = true
  | .str x, h => by
    have h' : x.length ≤ 12 ∧ PyData.strOk x = true := by simpa only [tam, Bool.and_eq_true, decide_eq_true_eq] using h
    simp only [PyData.shown]
    exact so_repr h'.2
  | .int i, h => by
    simp only [PyData.shown]
    exact so_lit _
  | .list ds, h => by
    have h' : ds.length ≤ 14 ∧ tams ds = true := by simpa only [tam, Bool.and_eq_true, decide_eq_true_eq] using h
    simp only [PyData.shown]
    rw [listText_eq_join]
    exact so_app (so_app (so_lit _) (so_join (so_lit _) (tams.so h'.2))) (so_lit _)
  | .tuple ds, h => by
    have h' : ds.length ≤ 14 ∧ tams ds = true := by simpa only [tam, Bool.and_eq_true, decide_eq_true_eq] using h
    simp only [PyData.shown]
    unfold tupleText
    exact so_app (so_app (so_lit _) (so_join (so_lit _) (tams.so h'.2))) (so_lit _)
  | .dict kvs, h => by
    have h' : kvs = [] := List.isEmpty_iff.mp h
    subst h'
    decide +kernel
  | .none, _ => by decide +kernel
  | .bool b, _ => by cases b <;> decide +kernel
theorem tams.so : ∀ {ds : List PyData}, tams ds = true → ∀ t ∈ PyData.shownAll ds, PyData.strOk t = true
  | [], _ => fun t ht => by simp only [PyData.shownAll] at ht; cases ht
  | d :: ds, h => by
    have h' : tam d = true ∧ tams ds = true := by simpa only [tams, Bool.and_eq_true] using h
    intro t ht
    simp only [PyData.shownAll] at ht
    rcases List.mem_cons.mp ht with rfl | ht
    · exact tam.so h'.1
    · exact tams.so h'.2 t ht
end
theorem nat_fit : ∀ n : Nat, n < 1000 → (PyData.shown (.int (n : Int))).length ≤ 13 ∧ (PyData.shown (.int (-(n : Int)))).length ≤ 13 := by
  have z : ∀ n : Fin 1000, (PyData.shown (.int (n.val : Int))).length ≤ 13 ∧ (PyData.shown (.int (-(n.val : Int)))).length ≤ 13 := by decide +kernel
  exact fun n h => z ⟨n, h⟩
theorem int_fit {i : Int} (h : i.natAbs < 1000) : PyData.showable (.int i) = true ∧ PyData.leavesShort 13 (.int i) = true ∧ PyData.weight (.int i) ≤ 12 := by
  have lg : i.natAbs.log2 < 10 := by
    by_cases z : i.natAbs = 0
    · rw [z]
      decide
    · exact (Nat.log2_lt z).mpr (by omega)
  refine ⟨?_, ?_, ?_⟩
  · show decide (i.natAbs.log2 < 1920) = true
    exact decide_eq_true (by omega)
  · show decide ((PyData.shown (.int i)).length ≤ 13) = true
    refine decide_eq_true ?_
    obtain ⟨a, b⟩ := nat_fit i.natAbs h
    rcases Int.natAbs_eq i with e | e
    · rw [e]
      exact a
    · rw [e]
      exact b
  · show (if (i == 0) = true then 0 else i.natAbs.log2 + 1) ≤ 12
    split <;> omega
/-- how heavy it is, by its depth -/
def bnd : Nat → Nat
  | 0 => 12
  | n + 1 => 14 * (bnd n + 1)
theorem bnd_mono : ∀ {m n : Nat}, m ≤ n → bnd m ≤ bnd n
  | 0, 0, _ => Nat.le_refl _
  | 0, n + 1, _ => by
    have := bnd_mono (m := 0) (n := n) (Nat.zero_le _)
    show _ ≤ 14 * (bnd n + 1)
    omega
  | m + 1, n + 1, h => by
    have := bnd_mono (m := m) (n := n) (by omega)
    show 14 * (bnd m + 1) ≤ 14 * (bnd n + 1)
    omega
mutual
theorem tam.parts : ∀ {d : PyData}, tam d = true → d.showable = true ∧ d.leavesShort 13 = true ∧ d.weight ≤ bnd d.depth
  | .str x, h => by
    have h' : x.length ≤ 12 ∧ PyData.strOk x = true := by simpa only [tam, Bool.and_eq_true, decide_eq_true_eq] using h
    refine ⟨rfl, List.all_eq_true.mpr fun c hc => decide_eq_true ?_, h'.1⟩
    have := so_iff.mp h'.2 c hc
    have e : (16 : Nat) ^ 8 = 4294967296 := by decide
    omega
  | .int i, h => int_fit (of_decide_eq_true h)
  | .list ds, h => by
    have h' : ds.length ≤ 14 ∧ tams ds = true := by simpa only [tam, Bool.and_eq_true, decide_eq_true_eq] using h
    obtain ⟨a, b, c⟩ := tams.parts h'.2 (Nat.le_refl _)
    refine ⟨a, b, Nat.le_trans c ?_⟩
    show _ ≤ 14 * (bnd (PyData.depthAll ds) + 1)
    exact Nat.mul_le_mul_right _ h'.1
  | .tuple ds, h => by
    have h' : ds.length ≤ 14 ∧ tams ds = true := by simpa only [tam, Bool.and_eq_true, decide_eq_true_eq] using h
    obtain ⟨a, b, c⟩ := tams.parts h'.2 (Nat.le_refl _)
    refine ⟨a, b, Nat.le_trans c ?_⟩
    show _ ≤ 14 * (bnd (PyData.depthAll ds) + 1)
    exact Nat.mul_le_mul_right _ h'.1
  | .dict kvs, h => by
    have h' : kvs = [] := List.isEmpty_iff.mp h
    subst h'
    exact ⟨rfl, rfl, Nat.zero_le _⟩
  | .none, _ => ⟨rfl, rfl, Nat.zero_le _⟩
  | .bool b, _ => ⟨rfl, rfl, Nat.zero_le _⟩
theorem tams.parts : ∀ {ds : List PyData} {n : Nat}, tams ds = true → PyData.depthAll ds ≤ n → PyData.showableAll ds = true ∧ PyData.leavesShortAll 13 ds = true ∧ PyData.weightAll ds ≤ ds.length * (bnd n + 1)
  | [], _, _, _ => ⟨rfl, rfl, Nat.zero_le _⟩
  | d :: ds, n, h, hn => by
    have h' : tam d = true ∧ tams ds = true := by simpa only [tams, Bool.and_eq_true] using h
    have hn' : max d.depth (PyData.depthAll ds) ≤ n := hn
    obtain ⟨a1, b1, c1⟩ := tam.parts h'.1
    obtain ⟨a2, b2, c2⟩ := tams.parts h'.2 (n := n) (by omega)
    have m := bnd_mono (m := d.depth) (n := n) (by omega)
    refine ⟨?_, ?_, ?_⟩
    · show (d.showable && PyData.showableAll ds) = true
      rw [a1, a2]
      rfl
    · show (d.leavesShort 13 && PyData.leavesShortAll 13 ds) = true
      rw [b1, b2]
      rfl
    · show d.weight + 1 + PyData.weightAll ds ≤ (ds.length + 1) * (bnd n + 1)
      rw [Nat.add_mul, Nat.one_mul]
      omega
end
theorem tam.fits {d : PyData} (h : tam d = true) (hd : d.depth ≤ 4) : Fits d := by
  obtain ⟨a, b, c⟩ := tam.parts h
  refine ⟨a, by omega, PyData.shown_fits (B := 13) (by decide) (by decide) b (Nat.le_trans c (Nat.le_trans (bnd_mono hd) (by decide)))⟩
theorem tam_nm {x : Str} (h : Nm x) : tam (.str x) = true := by
  show (decide (x.length ≤ 12) && PyData.strOk x) = true
  rw [nm_ok h, decide_eq_true (by have := h.2.1; omega)]
  rfl
theorem tams_strs : ∀ {xs : List Str}, (∀ x ∈ xs, Nm x) → tams (xs.map PyData.str) = true
  | [], _ => rfl
  | x :: xs, h => by
    show (tam (.str x) && tams (xs.map PyData.str)) = true
    rw [tam_nm (h x List.mem_cons_self), tams_strs fun y hy => h y (List.mem_cons_of_mem _ hy)]
    rfl
end My

namespace My
open PySem PySem.Spec PyProof.Rows L2 Gy Xl Xs Xt
/-! ### drawn data: kept when the pot changes -/
/-- a list of two whole numbers -/
def twoInts : List PyData → Bool
  | [.int _, .int _] => true
  | _ => false
mutual
/-- no list of two whole numbers in it -/
def npr : PyData → Bool
  | .list ds => (!twoInts ds) && nprs ds
  | .tuple ds => nprs ds
  | _ => true
def nprs : List PyData → Bool
  | [] => true
  | d :: ds => npr d && nprs ds
end
end My
namespace Gy
open PySem PySem.Spec PyProof.Rows L2 Xl Xs Xt My
section
variable {K : PySem.W.Frag} {H H' : Hp}
theorem Dns.snoc : ∀ {vs : List V} {ds : List PyData} {v : V} {d : PyData}, Dns K H vs ds → Dn K H v d → Dns K H (vs ++ [v]) (ds ++ [d])
  | _, _, _, _, .nil, h => .cons h .nil
  | _, _, _, _, .cons a t, h => .cons a (Dns.snoc t h)
theorem Dns.app : ∀ {vs us : List V} {ds es : List PyData}, Dns K H vs ds → Dns K H us es → Dns K H (vs ++ us) (ds ++ es)
  | _, _, _, _, .nil, h => h
  | _, _, _, _, .cons a t, h => .cons a (Dns.app t h)
theorem Dns.mem : ∀ {vs : List V} {ds : List PyData} {v : V}, Dns K H vs ds → v ∈ vs → ∃ d, d ∈ ds ∧ Dn K H v d
  | _, _, _, .nil, h => nomatch h
  | _, _, v, .cons (d := d) a t, h => by
    rcases List.mem_cons.mp h with rfl | h
    · exact ⟨d, List.mem_cons_self, a⟩
    · obtain ⟨e, m, z⟩ := Dns.mem t h
      exact ⟨e, List.mem_cons_of_mem _ m, z⟩
mutual
theorem Dn.but {r : Addr} (R : Rng H r) (b : But r H H') : ∀ {v : V} {d : PyData}, Dn K H v d → npr d = true → Dn K H' v d
  | _, _, .non, _ => .non
  | _, _, .bl b, _ => .bl b
  | _, _, .int i, _ => .int i
  | _, _, .str x, _ => .str x
  | _, _, .lst (a := a) (xs := xs) (ds := ds) h t, n => by
    have n2 : (!twoInts ds) = true ∧ nprs ds = true := by
      rw [← Bool.and_eq_true]
      exact n
    refine .lst (b a _ (fun z => ?_) h) (Dns.but R b t n2.2)
    obtain ⟨x, y, e, _⟩ := R
    rw [z, e] at h
    injection h with h
    injection h with h
    subst h
    cases t with
    | cons h1 t =>
      cases t with
      | cons h2 t =>
        cases t
        cases h1
        cases h2
        exact absurd n2.1 (by simp [My.twoInts])
  | _, _, .tup h t, n => .tup (h.but R b) (Dns.but R b t n)
  | _, _, .dic (a := a) h, _ => .dic (b a _ (fun z => by
    obtain ⟨x, y, e, _⟩ := R
    rw [z, e] at h
    cases h) h)
theorem Dns.but {r : Addr} (R : Rng H r) (b : But r H H') : ∀ {vs : List V} {ds : List PyData}, Dns K H vs ds → nprs ds = true → Dns K H' vs ds
  | _, _, .nil, _ => .nil
  | _, _, .cons (d := d) (ds := ds) h t, n => by
    have n2 : npr d = true ∧ nprs ds = true := by
      rw [← Bool.and_eq_true]
      exact n
    exact .cons (Dn.but R b h n2.1) (Dns.but R b t n2.2)
end
end
section
variable {K : PySem.W.Frag} {H : Hp}
mutual
theorem Dn.dp : ∀ {v : V} {d : PyData}, Dn K H v d → d.canLay0 = true → Dp K H v d
  | _, _, .non, _ => .non
  | _, _, .bl b, _ => .bl b
  | _, _, .int i, _ => .int i
  | _, _, .str x, _ => .str x
  | _, _, .lst h t, n => .lst (SqL.of h) (Dns.dp t n)
  | _, _, .tup h t, n => .tup h.sq (Dns.dp t n)
  | _, _, .dic h, n => nomatch n
theorem Dns.dp : ∀ {vs : List V} {ds : List PyData}, Dns K H vs ds → PyData.canLayAll0 ds = true → DpAll K H vs ds
  | _, _, .nil, _ => .nil
  | _, _, .cons (d := d) (ds := ds) h t, n => by
    have n2 : d.canLay0 = true ∧ PyData.canLayAll0 ds = true := by
      rw [← Bool.and_eq_true]
      exact n
    exact .cons (Dn.dp h n2.1) (Dns.dp t n2.2)
end
end
end Gy
namespace My
open PySem PySem.Spec PyProof.Rows L2 Gy Xl Xs Xt
/-! ### few and short parts, not deep -/
structure Gd (n : Nat) (d : PyData) : Prop where
  tm : tam d = true
  dp : d.depth ≤ n
  np : npr d = true
theorem Gd.mono {m n : Nat} {d : PyData} (h : Gd m d) (l : m ≤ n) : Gd n d := ⟨h.tm, Nat.le_trans h.dp l, h.np⟩
theorem gds {n : Nat} : ∀ {ds : List PyData}, (∀ d ∈ ds, Gd n d) → tams ds = true ∧ PyData.depthAll ds ≤ n ∧ nprs ds = true
  | [], _ => ⟨rfl, Nat.zero_le _, rfl⟩
  | d :: ds, h => by
    obtain ⟨a, b, c⟩ := gds (ds := ds) fun e he => h e (List.mem_cons_of_mem _ he)
    have g := h d List.mem_cons_self
    refine ⟨?_, ?_, ?_⟩
    · show (tam d && tams ds) = true
      rw [g.tm, a]
      rfl
    · show max d.depth (PyData.depthAll ds) ≤ n
      have := g.dp
      omega
    · show (npr d && nprs ds) = true
      rw [g.np, c]
      rfl
theorem Gd.tup {n : Nat} {ds : List PyData} (l : ds.length ≤ 14) (h : ∀ d ∈ ds, Gd n d) : Gd (n + 1) (.tuple ds) := by
  obtain ⟨a, b, c⟩ := gds h
  refine ⟨?_, Nat.succ_le_succ b, c⟩
  show (decide (ds.length ≤ 14) && tams ds) = true
  rw [decide_eq_true l, a]
  rfl
theorem Gd.lst {n : Nat} {ds : List PyData} (l : ds.length ≤ 14) (h : ∀ d ∈ ds, Gd n d) (p : (!twoInts ds) = true) : Gd (n + 1) (.list ds) := by
  obtain ⟨a, b, c⟩ := gds h
  refine ⟨?_, Nat.succ_le_succ b, ?_⟩
  · show (decide (ds.length ≤ 14) && tams ds) = true
    rw [decide_eq_true l, a]
    rfl
  · have e : npr (.list ds) = ((!twoInts ds) && nprs ds) := rfl
    rw [e, p, c]
    rfl
theorem Gd.str {n : Nat} {x : Str} (h : Nm x) : Gd n (.str x) := ⟨tam_nm h, Nat.zero_le _, rfl⟩
theorem Gd.txt {n : Nat} {x : Str} (h : (decide (x.length ≤ 12) && PyData.strOk x) = true := by decide +kernel) : Gd n (.str x) := ⟨h, Nat.zero_le _, rfl⟩
theorem Gd.int {n : Nat} {i : Int} (h : i.natAbs < 1000) : Gd n (.int i) := ⟨decide_eq_true h, Nat.zero_le _, rfl⟩
theorem Gd.bl {n : Nat} {b : Bool} : Gd n (.bool b) := ⟨rfl, Nat.zero_le _, rfl⟩
theorem Gd.non {n : Nat} : Gd n .none := ⟨rfl, Nat.zero_le _, rfl⟩
theorem Gd.dic {n : Nat} : Gd (n + 1) (.dict []) := ⟨rfl, by show 0 + 1 ≤ n + 1; omega, rfl⟩
theorem Gd.strs {n : Nat} {xs : List Str} (h : ∀ x ∈ xs, Nm x) : ∀ d ∈ xs.map PyData.str, Gd n d := fun d hd => by
  obtain ⟨x, hx, rfl⟩ := List.mem_map.mp hd
  exact .str (h x hx)
theorem Gd.path {n : Nat} {xs : List Str} (h : ∀ x ∈ xs, Nm x) (l : xs.length ≤ 14) : Gd (n + 1) (.tuple (xs.map PyData.str)) := .tup (by rw [List.length_map]; exact l) (.strs h)
theorem Gd.tup1 {n : Nat} {d : PyData} (h : Gd n d) : Gd (n + 1) (.tuple [d]) := .tup (by show 1 ≤ 14; decide) fun x hx => by
  rw [List.mem_singleton.mp hx]
  exact h
theorem Gd.tup2 {n : Nat} {d e : PyData} (h1 : Gd n d) (h2 : Gd n e) : Gd (n + 1) (.tuple [d, e]) := .tup (by show 2 ≤ 14; decide) fun x hx => by
  simp only [List.mem_cons, List.not_mem_nil, or_false] at hx
  rcases hx with rfl | rfl
  · exact h1
  · exact h2
theorem Gd.tup3 {n : Nat} {d e f : PyData} (h1 : Gd n d) (h2 : Gd n e) (h3 : Gd n f) : Gd (n + 1) (.tuple [d, e, f]) := .tup (by show 3 ≤ 14; decide) fun x hx => by
  simp only [List.mem_cons, List.not_mem_nil, or_false] at hx
  rcases hx with rfl | rfl | rfl
  · exact h1
  · exact h2
  · exact h3
theorem Gd.snoc {n : Nat} {xs : List Str} {ds : List PyData} (h : ∀ x ∈ xs, Nm x) (h2 : ∀ d ∈ ds, Gd n d) (l : xs.length + ds.length ≤ 14) : Gd (n + 1) (.tuple (xs.map PyData.str ++ ds)) :=
  .tup (by rw [List.length_append, List.length_map]; exact l) fun d hd => by
    rcases List.mem_append.mp hd with hd | hd
    · exact .strs h d hd
    · exact h2 d hd
theorem upd_new {H H' : Hp} {l : Addr} {o : HO} (e : upd H l o = H') (n : H l = none) : Same H H' ∧ H' l = some o := by
  rw [← e]
  exact ⟨same_upd n, upd_same⟩
/-! ### what is no relink -/
theorem rel_c {ds : List PyData} {c : PyData} (h : isIdx ((ds.length : Int) - 1) c = false) : isRel (.tuple [.tuple ds, c]) = false := by
  show (isPath (.tuple ds) && isIdx ((ds.length : Int) - 1) c) = false
  rw [h, Bool.and_false]
theorem rel_p {p c : PyData} (h : isPath p = false) : isRel (.tuple [p, c]) = false := by
  rw [isRel_2, h, Bool.false_and]
theorem path_few {ds : List PyData} (h : ds.length < 3) : isPath (.tuple ds) = false := by
  rw [isPath_t, decide_eq_false (by omega), Bool.false_and]
theorem path_bad {ds : List PyData} {d : PyData} (m : d ∈ ds) (h : isHost d = false) : isPath (.tuple ds) = false := by
  have e : ds.all isHost = false := by
    rw [Bool.eq_false_iff]
    intro z
    rw [List.all_eq_true] at z
    rw [z d m] at h
    cases h
  rw [isPath_t, e, Bool.false_and, Bool.and_false]
theorem path_dbl {xs : List Str} (h : ¬ xs.Nodup) : isPath (.tuple (xs.map PyData.str)) = false := by
  rw [isPath_t, txts_map, decide_eq_false h, Bool.and_false, Bool.and_false]
theorem idx_int {n i : Int} (h : i < 0 ∨ n ≤ i) : isIdx n (.int i) = false := by
  rw [isIdx_i]
  rcases h with h | h
  · rw [decide_eq_false (by omega), Bool.false_and]
  · rw [decide_eq_false (show ¬ i < n by omega), Bool.and_false]
theorem cutn (xs : List Str) {n : Nat} (h : n ≤ xs.length) : cutV (xs.map V.str) none (some (n : Int)) = (xs.take n).map V.str := by
  unfold cutV
  have e2 : HT.sIx (xs.map V.str).length (xs.map V.str).length (some (n : Int)) = n := by
    rw [HT.sIx_nat, List.length_map]
    omega
  rw [e2, HT.sIx_none, List.drop_zero, Nat.sub_zero, List.map_take]
theorem take_ne {xs : List Str} {n : Nat} (h : n < xs.length) : (xs.take n).map V.str ≠ xs.map V.str := fun z => by
  have z := congrArg List.length z
  rw [List.length_map, List.length_map, List.length_take] at z
  omega
end My

namespace My
open PySem PySem.Spec PyProof.Rows L2 Gy Xl Xs Xt
/-! ### forwards -/
/-- pairs of a text and a whole number stand at ts -/
def PrI (H : Hp) : List Addr → List (Str × Int) → Prop
  | [], [] => True
  | t :: ts, p :: ps => Tz H t [.str p.1, .int p.2] ∧ PrI H ts ps
  | _, _ => False
theorem PrI.same {H H' : Hp} (s : Same H H') : ∀ {ts : List Addr} {ps : List (Str × Int)}, PrI H ts ps → PrI H' ts ps
  | [], [], _ => trivial
  | _ :: _, _ :: _, h => ⟨h.1.same s, PrI.same s h.2⟩
theorem PrI.snoc_upd {H : Hp} {D t : Addr} {l : List V} {o : HO} {p : Str × Int} (hD : H D = some (.lst l)) (tz : Tz H t [.str p.1, .int p.2]) : ∀ {ts : List Addr} {ps : List (Str × Int)}, PrI H ts ps → PrI (upd H D o) (ts ++ [t]) (ps ++ [p])
  | [], [], _ => ⟨tz.updL hD, trivial⟩
  | _ :: _, _ :: _, h => ⟨h.1.updL hD, PrI.snoc_upd hD tz h.2⟩
theorem PrI.len {H : Hp} : ∀ {ts : List Addr} {ps : List (Str × Int)}, PrI H ts ps → ts.length = ps.length
  | [], [], _ => rfl
  | _ :: _, _ :: _, h => by rw [List.length_cons, List.length_cons, PrI.len h.2]
/-- a list of such pairs stands at L -/
def Lp (H : Hp) (L : Addr) (ps : List (Str × Int)) : Prop := ∃ ts, H L = some (.lst (ts.map V.ref)) ∧ PrI H ts ps
theorem Lp.same {H H' : Hp} {L : Addr} {ps : List (Str × Int)} (h : Lp H L ps) (s : Same H H') : Lp H' L ps := by
  obtain ⟨ts, h1, h2⟩ := h
  exact ⟨ts, s _ _ h1, h2.same s⟩
/-- the goals of a message -/
def gls (src : Option Str) (ys : List Str) : List Str := ys.filter fun y => !decide (V.str y = optV src)
/-- is not None -/
def rNotN : R2 := fun x y H Q => y = .non ∧ Q (.bl (!decide (x = .non))) H
def sentTo (f : Str → V) (g : Str) : Option (Str × Int) := match f g with
  | .int n => some (g, n)
  | _ => none
def sents (f : Str → V) (gs : List Str) : List (Str × Int) := gs.filterMap (sentTo f)
theorem fwd_opt (xs : List Str) (c j : Nat) (ph : Str) (src : Option Str) (g : Str) (b : Int) : fwd xs c j ph src g b = .non ∨ ∃ n, fwd xs c j ph src g b = .int n := by
  unfold fwd endB
  repeat' split
  all_goals first
    | exact .inl rfl
    | exact .inr ⟨_, rfl⟩
section
variable {P : Program} {w : World} {K : PySem.W.Frag} {mg : Str → Option Value} {base : Heap} {H : Hp}
def isNo : PyData → Bool
  | .none => true
  | _ => false
theorem isNo_eq {d : PyData} : isNo d = true ↔ d = .none := by
  cases d <;> simp [isNo]
theorem non_iff {v : V} {d : PyData} (h : Dn K H v d) : decide (v = .non) = isNo d := by
  cases h <;> rfl
def spForw (K : PySem.W.Frag) (C U : Addr) : Sp := fun vs H Q E => ∃ (la : Addr) (ls : List Str) (src : Option Str) (b : Int) (v h : V) (d e : PyData) (ph : Str), vs = [.ref la, optV src, .int b, v, h, .str ph] ∧ (SqL K H la (ls.map V.str) ∨ SqT K H la (ls.map V.str)) ∧ ls.length ≤ 20 ∧
  Dn K H v d ∧ sml d = true ∧ Dn K H h e ∧ sml e = true ∧
  (d = .none → ∀ ys H' L, ys.Perm ls → sortedS ys = true → Same H H' → H L = none → Lp H' L ((gls src ys).map fun g => (g, 0)) → Q (.ref L) H') ∧
  (d ≠ .none → isRel d = false → Ro E C "value" v H) ∧
  ∀ xs c, d = reld xs c → isRel d = true → (posn xs e = none → Ro E U "host" h H) ∧ ∀ j, posn xs e = some j → ∀ ys H' L, ys.Perm ls → sortedS ys = true → Same H H' → H L = none → Lp H' L (sents (fun g => fwd xs c j ph src g b) (gls src ys)) → Q (.ref L) H'
theorem ok_forw {f C U : Addr} {fd : FuncData} (F : Fun K "forwards" "forwards" s_forwards f fd) (Y : Bn mg) (G_position : Fk P w K mg base (L2.CX P w) 6 "position" ["relink", "host"] (spQh K C U fun j _ => .int (j : Int)))
    (G_forward_bit : Fk P w K mg base (L2.CX P w) 7 "forward_bit" ["relink", "host", "phase", "source", "goal", "bit"] (spFwd K C U)) : FnOk P w K mg base (L2.CX P w) 8 f fd ["links", "source", "bit", "relink", "host", "phase"] (spForw K C U) := by
  refine F.okX sc_forwards (fun vs H Q E h => ?_) (fun cdv A outer s H vs Q E hr h => ?_)
  · obtain ⟨la, ls, src, b, v, h, d, e, ph, rfl, _⟩ := h
    rfl
  · obtain ⟨la, ls, src, b, v, h, d, e, ph, rfl, hl, l20, dn, sm, dh, sh, q0, q1, q2⟩ := h
    refine ⟨_, (pss_cons (ps_setLc (i := 6) (own := [("goal", 8)]) (g := gName 8) (tt := tTest (tOp rNe (tVar 8) (tVar 1))) rfl sc_forwards.nd rfl rfl (sw_true rfl rfl rfl (by decide +kernel)) (pi_list (pe_callB (show CallR _ (.builtin "sorted") (rSortX K) from cr_sortX) (by rfl) Y.sorted (by decide +kernel) (pa_cons (pv 0) pa_nil))) (blkOk_by (N := ["links", "source", "bit", "relink", "host", "phase", "goals", "bits", "goal", "sent"]) (sc := defScope s_forwards) (by decide +kernel)) (fun _ _ _ _ _ => (pg_name (i := 8) sc_forwards.nd rfl (Or.inl rfl))) (fun _ _ _ _ _ => (pts_one (pt_cmpR op_ne (pv 8) (pv 1) (nomark _)))) (fun _ _ _ _ _ => (pv 8)))
 (pss_cons (ps_if (pt_cmpR op_isN (pv 3) pe_non (nomark _))
 (pss_one (ps_ret (pe_lc (own := [("goal", 8)]) (g := gName 8) (tt := tYes) rfl sc_forwards.nd (pi_list (pv 6)) (blkOk_by (N := ["links", "source", "bit", "relink", "host", "phase", "goals", "bits", "goal", "sent"]) (sc := defScope s_forwards) (by decide +kernel)) (fun _ _ _ _ _ => (pg_name (i := 8) sc_forwards.nd rfl (Or.inl rfl))) (fun _ _ _ _ _ => pts_nil) (fun _ _ _ _ _ => (pe_tupZ (pa_cons (pv 8) (pa_cons pe_int pa_nil)))))))
 pss_nil)
 (pss_cons (ps_expr (pe_callF G_position (hr.mono (by decide)) (by rfl) (passes_call (E := E) (takes_of rfl rfl rfl rfl) (fun _ _ _ _ h => h)) (pa_cons (pv 3) (pa_cons (pv 4) pa_nil))))
 (pss_cons (ps_setLc (i := 7) (own := [("goal", 8)]) (g := gName 8) (tt := tYes) rfl sc_forwards.nd rfl rfl (sw_true rfl rfl rfl (by decide +kernel)) (pi_list (pv 6)) (blkOk_by (N := ["links", "source", "bit", "relink", "host", "phase", "goals", "bits", "goal", "sent"]) (sc := defScope s_forwards) (by decide +kernel)) (fun _ _ _ _ _ => (pg_name (i := 8) sc_forwards.nd rfl (Or.inl rfl))) (fun _ _ _ _ _ => pts_nil) (fun _ _ _ _ _ => (pe_callF G_forward_bit (hr.mono (by decide)) (by rfl) passN (pa_cons (pv 3) (pa_cons (pv 4) (pa_cons (pv 5) (pa_cons (pv 1) (pa_cons (pv 8) (pa_cons (pv 2) pa_nil)))))))))
 (pss_one (ps_ret (pe_lc (own := [("goal", 8), ("sent", 9)]) (g := gTup K 2 (gCons (gName 8) (gCons (gName 9) gNil))) (tt := tTest (tOp rNotN (tVar 9) (tC .non))) rfl sc_forwards.nd (pi_zip (by rfl) Y.zip (pa_cons (pv 6) (pa_cons (pv 7) pa_nil))) (blkOk_by (own := [("goal", 8), ("sent", 9)]) (N := ["links", "source", "bit", "relink", "host", "phase", "goals", "bits", "goal", "sent"]) (sc := defScope s_forwards) (by decide +kernel)) (fun _ _ _ _ _ => pg_tup (by rfl) (pgs_cons (pg_name (i := 8) sc_forwards.nd rfl (Or.inl rfl)) (pgs_cons (pg_name (i := 9) sc_forwards.nd rfl (Or.inl rfl)) pgs_nil))) (fun _ _ _ _ _ => pts_one (pt_cmpR (show OpR _ _ rNotN from op_notN) (pv 9) pe_non (nomark _))) (fun _ _ _ _ _ => pe_tupZ (pa_cons (pv 8) (pa_cons (pv 9) pa_nil)))))))))), ?_⟩
    refine ⟨_, rfl, la, ls, rfl, hl, by omega, fun ys p perm srt np => ?_⟩
    have sp := same_upd (o := .lst (ys.map V.str)) np
    have hp : (upd H p (.lst (ys.map V.str))) p = _ := upd_same
    have yl : ys.length ≤ 20 := by rw [perm.length_eq]; exact l20
    generalize upd H p (.lst (ys.map V.str)) = H1 at sp hp ⊢
    refine ⟨p, rfl, ⟨_, SqL.of hp⟩, fun D nD => ?_⟩
    refine lc_it (walk_list (K := K) (a := p) (xs := ys.map V.str)) (fun i H' => Same H1 H' ∧ H' D = some (.lst (((ys.take i).filter (fun y => !decide (V.str y = optV src))).map V.str)))
      ⟨same_upd nD, upd_same⟩ (fun i H' _ h => SqL.of (h.1 _ _ hp)) ?_ ?_
    · rintro k y H8 H9 hk ⟨s8, hZ⟩ ⟨rfl, hy⟩
      rw [List.getElem?_map] at hy
      obtain ⟨z, hz, rfl⟩ := Option.map_eq_some_iff.mp hy
      refine ⟨rfl, ?_⟩
      refine ⟨_, rfl, _, rfl, scal_opt z src, _, rfl, ite2 (fun c8 => ?_) (fun c8 => ?_)⟩
      · refine ⟨_, rfl, _, hZ, ?_, same_upd2 s8 nD, ?_⟩
        · rw [List.length_map]
          have l1 := List.length_filter_le (fun y => !decide (V.str y = optV src)) (ys.take k)
          rw [List.length_take] at l1
          exact small200 (by omega)
        · rw [upd_same, List.take_add_one, hz, List.filter_append, List.map_append]
          show some (HO.lst _) = some (HO.lst (_ ++ (List.filter _ [z]).map V.str))
          rw [List.filter_cons_of_pos (by exact c8)]
          rfl
      · refine ⟨s8, ?_⟩
        rw [hZ, List.take_add_one, hz, List.filter_append]
        show some (HO.lst _) = some (HO.lst ((_ ++ List.filter _ [z]).map V.str))
        rw [List.filter_cons_of_neg (by exact c8), List.filter_nil, List.append_nil]
    rintro H2 ⟨s2, hZ⟩
    rw [List.length_map, List.take_of_length_le (Nat.le_refl _)] at hZ
    have hZ : H2 D = some (.lst ((gls src ys).map V.str)) := hZ
    have gl : (gls src ys).length ≤ 20 := Nat.le_trans (List.length_filter_le _ _) yl
    have s02 := sp.trans s2
    generalize hgs : gls src ys = gs at hZ gl
    refine ⟨_, rfl, rfl, _, rfl, ?_⟩
    rw [non_iff dn]
    refine ite2 (fun c1 => ?_) (fun c1 => ?_)
    · have c1' : d = .none := isNo_eq.mp c1
      refine ⟨_, rfl, D, rfl, ⟨_, SqL.of hZ⟩, fun D2 nD2 => ?_⟩
      refine lc_it (walk_list (K := K) (a := D) (xs := gs.map V.str)) (fun i H' => Same H2 H' ∧ ∃ ts : List Addr, H' D2 = some (.lst (ts.map V.ref)) ∧ ts.length = i ∧ PrI H' ts ((gs.take i).map fun g => (g, 0)))
        ⟨same_upd nD2, [], upd_same, rfl, trivial⟩ (fun i H' _ h => SqL.of (h.1 _ _ hZ)) ?_ ?_
      · rintro k y H3 H4 hk ⟨s3, ts, hD, tl, pr⟩ ⟨rfl, hy⟩
        rw [List.getElem?_map] at hy
        obtain ⟨z, hz, rfl⟩ := Option.map_eq_some_iff.mp hy
        refine ⟨rfl, ?_⟩
        dsimp only [tYes]
        refine iteT ?_
        refine ⟨_, rfl, (by show 2 ≤ sizeLine; decide), fun t o nt st tz => ?_⟩
        refine ⟨_, st _ _ hD, ?_, same_upd2 (s3.trans st) nD2, ts ++ [t], ?_, ?_, ?_⟩
        · rw [List.length_map, tl]
          rw [List.length_map] at hk
          exact small200 (by omega)
        · rw [upd_same, List.map_append]
          rfl
        · rw [List.length_append, tl]
          rfl
        · rw [List.take_add_one, hz, List.map_append]
          exact (pr.same st).snoc_upd (st _ _ hD) tz
      · rintro H3 ⟨s3, ts, hD, tl, pr⟩
        rw [List.length_map, List.take_of_length_le (Nat.le_refl _)] at pr
        exact q0 c1' ys H3 D2 perm srt (s02.trans s3) (by
          cases z : H D2 with
          | none => rfl
          | some o => rw [s02 _ _ z] at nD2; cases nD2) ⟨ts, hD, by rw [hgs]; exact pr⟩
    have c1' : d ≠ .none := fun z => c1 (isNo_eq.mpr z)
    refine ⟨_, rfl, _, rfl, v, h, d, e, rfl, dn.same s02, sm, dh.same s02, sh, fun z => (q1 c1' z).same s02, fun xs c ed ir => ?_⟩
    obtain ⟨q3, q4⟩ := q2 xs c ed ir
    refine ⟨fun j hj H3 s3 => ?_, fun z => (q3 z).same s02⟩
    have q5 := q4 j hj
    have s03 := s02.trans s3
    have dn3 := dn.same s03
    have dh3 := dh.same s03
    have hZ3 := s3 _ _ hZ
    obtain ⟨fw, hfw⟩ : ∃ fw : Str → V, fw = fun g => fwd xs c j ph src g b := ⟨_, rfl⟩
    refine ⟨_, rfl, D, rfl, ⟨_, SqL.of hZ3⟩, fun D2 nD2 => ?_⟩
    refine lc_it (walk_list (K := K) (a := D) (xs := gs.map V.str)) (fun i H' => Same H3 H' ∧ H' D2 = some (.lst ((gs.take i).map fw)))
      ⟨same_upd nD2, upd_same⟩ (fun i H' _ h => SqL.of (h.1 _ _ hZ3)) ?_ ?_
    · rintro k y H4 H5 hk ⟨s4, hB⟩ ⟨rfl, hy⟩
      rw [List.getElem?_map] at hy
      obtain ⟨z, hz, rfl⟩ := Option.map_eq_some_iff.mp hy
      refine ⟨rfl, ?_⟩
      dsimp only [tYes]
      refine iteT ?_
      refine ⟨_, rfl, _, rfl, _, rfl, _, rfl, _, rfl, _, rfl, v, h, d, e, ph, z, src, b, rfl, dn3.same s4, sm, dh3.same s4, sh, fun w => ?_, fun xs' c' ed' _ => ?_⟩
      · rw [ir] at w
        cases w
      · obtain ⟨rfl, rfl⟩ := reld_inj (ed.symm.trans ed')
        refine ⟨fun j' hj' H6 s6 => ?_, fun w => ?_⟩
        · rw [hj] at hj'
          injection hj' with hj'
          subst hj'
          refine ⟨_, s6 _ _ hB, ?_, same_upd2 (s4.trans s6) nD2, ?_⟩
          · rw [List.length_map, List.length_take]
            exact small200 (by omega)
          · rw [upd_same, List.take_add_one, hz, List.map_append, hfw]
            rfl
        · rw [hj] at w
          cases w
    rintro H4 ⟨s4, hB⟩
    rw [List.length_map, List.take_of_length_le (Nat.le_refl _)] at hB
    have s04 := s03.trans s4
    have hZ4 := s4 _ _ hZ3
    refine ⟨_, rfl, _, rfl, D, D2, _, _, rfl, SqL.of hZ4, SqL.of hB, fun D3 nD3 => ?_⟩
    refine lc_it (walk_zip (K := K) (a := D) (b := D2) (xs := gs.map V.str) (ys := gs.map fw) (n := gs.length) (by rw [List.length_map, List.length_map, Nat.min_self])) (fun i H' => Same H4 H' ∧ ∃ ts : List Addr, H' D3 = some (.lst (ts.map V.ref)) ∧ ts.length ≤ i ∧ PrI H' ts (sents fw (gs.take i)))
      ⟨same_upd nD3, [], upd_same, Nat.le_refl _, trivial⟩ (fun i H' _ h => ⟨SqL.of (h.1 _ _ hZ4), SqL.of (h.1 _ _ hB)⟩) ?_ ?_
    · rintro k y H5 H6 hk ⟨s5, ts, hD, tl, pr⟩ ⟨T, x, z, rfl, nT, rfl, e1, e2⟩
      have gk := List.getElem?_eq_getElem hk
      have e1 : (gs.map V.str)[k]? = some x := e1
      have e2 : (gs.map fw)[k]? = some z := e2
      rw [List.getElem?_map, gk] at e1 e2
      injection e1 with e1
      injection e2 with e2
      subst e1 e2
      refine ⟨T, _, rfl, SqT.of upd_same, rfl, _, _, rfl, _, _, rfl, rfl, rfl, ?_⟩
      have sT := same_upd (o := .tup [.str gs[k], fw gs[k]]) nT
      have hD6 := sT _ _ hD
      have pr6 := pr.same sT
      have s6 := s5.trans sT
      have tk : sents fw (gs.take (k + 1)) = sents fw (gs.take k) ++ (sentTo fw gs[k]).toList := by
        unfold sents
        rw [List.take_add_one, gk, List.filterMap_append]
        congr 1
      refine ⟨_, rfl, rfl, _, rfl, ?_⟩
      have fo : fw gs[k] = .non ∨ ∃ n, fw gs[k] = .int n := by rw [hfw]; exact fwd_opt ..
      rcases fo with fo | ⟨n, fo⟩
      · have w : sentTo fw gs[k] = none := by
          unfold sentTo
          rw [fo]
        refine ite2 (fun c => ?_) (fun c => ?_)
        · have c' : (!decide (fw gs[k] = .non)) = true := c
          rw [decide_eq_true fo] at c'
          cases c'
        · refine ⟨s6, ts, hD6, by omega, ?_⟩
          rw [tk, w]
          show PrI _ ts (_ ++ [])
          rw [List.append_nil]
          exact pr6
      · have w : sentTo fw gs[k] = some (gs[k], n) := by
          unfold sentTo
          rw [fo]
        refine ite2 (fun c => ?_) (fun c => ?_)
        · refine ⟨_, rfl, _, rfl, (by show 2 ≤ sizeLine; decide), fun t o nt st tz => ?_⟩
          have tz : Tz (upd (upd H5 T (.tup [.str gs[k], fw gs[k]])) t o) t [.str gs[k], .int n] := by
            rw [← fo]
            exact tz
          refine ⟨_, st _ _ hD6, ?_, same_upd2 (s6.trans st) nD3, ts ++ [t], ?_, ?_, ?_⟩
          · rw [List.length_map]
            exact small200 (by omega)
          · rw [upd_same, List.map_append]
            rfl
          · rw [List.length_append]
            exact Nat.succ_le_succ tl
          · rw [tk, w]
            exact (pr6.same st).snoc_upd (st _ _ hD6) tz
        · have c' : ¬ (!decide (fw gs[k] = .non)) = true := c
          rw [fo] at c'
          exact absurd (by simp) c'
    · rintro H5 ⟨s5, ts, hD, tl, pr⟩
      rw [List.take_of_length_le (Nat.le_refl _)] at pr
      refine q5 ys H5 D3 perm srt (s04.trans s5) (by
          cases z : H D3 with
          | none => rfl
          | some o => rw [s04 _ _ z] at nD3; cases nD3) ⟨ts, hD, ?_⟩
      rw [hgs, ← hfw]
      exact pr
end
end My

/-! forwards, some of its keywords left out; a call with keywords in a try. -/
namespace My
open PySem PySem.Spec PyProof.Rows L2 Gy Xl Xs Xt
section
variable {X : Cx} {CX : CXT} {k n : Nat} {ps ks : List Str} {sp : Sp} {E : L2.St → XK} {x : Str} {p pos : Pos} {e : Expr} {es : List Expr} {kws : List Keyword} {t tk : TA} {gV : List V → List V → List V}
def tCallNS (n m : Nat) (sp : Sp) (gV : List V → List V → List V) (E : L2.St → XK) (t tk : TA) : TE := fun σ H Q => t σ H fun vs H1 => tk σ H1 fun zs H2 => vs.length = n ∧ zs.length = m ∧ sp (gV vs zs) H2 Q (E σ)
theorem pe_callNSF (F : Fw X.prog X.w X.K X.mg X.base CX k x ps n ks gV sp) (hr : Room k X.A) (hg : Gl X x) (hx : ∀ σ, PassesAt CX X σ (E σ)) (ha : PA X (e :: es) t) (hkw : PK X kws tk)
    (hall : (backToKw pos (keywordEach kws X.env)).all (·.1.isSome) = true := by rfl) (hks : (backToKw pos (keywordEach kws X.env)).filterMap (·.1) = ks := by rfl) (hdb : (x == ("__debug__" : Str)) = false := by decide)
    (he : starEach (e :: es) X.env = (false, eval e X.env) :: starEach es X.env := by rfl) (hpl : ((backTo pos (starEach (e :: es) X.env)).any (·.1) || (backToKw pos (keywordEach kws X.env)).any (·.1.isNone)) = false := by rfl) :
    PE X (.Call (.Name x p) (e :: es) kws pos) (tCallNS n ks.length sp gV E t tk) := by
  obtain ⟨f, fd, g, m, kp, b, G⟩ := F.ex
  constructor
  intro pins s σ H Q I h
  refine wpAny_Call_Name_kw (ld_glob I hg m ?_ hdb)
  refine PySem.W.callWith_KW (h₀ := X.base) I.ok.mod.kin kp hall (thn (ha.run pos pins s σ H _ I h) ?_) hpl he
  rintro us s1 ⟨vs, H1, I1, r, q⟩
  refine thn (hkw.run pos pins s1 σ H1 _ I1 q) ?_
  rintro ws s2 ⟨zs, H2, I2, rz, l1, l2, q2⟩
  refine ⟨I2.kIn, ?_⟩
  rw [hks]
  have r2 := b.rel r rz
  refine wpAny_call (codeAny_mono (G.run X.A X.stack s2 H2 ⟨us, ks.zip ws⟩ _ (gV vs zs) Q (E σ) hr I2.env0 (b.to s2 us ws I2.kIn (r.length.symm.trans l1) (rz.length.symm.trans l2)) r2 q2) ?_)
  rintro (er | fl) s' hq
  · exact hx σ pins H2 s2 er s' I2 hq
  · cases fl with
    | ret u => exact I2.after hq
    | next => exact False.elim hq
    | brk => exact False.elim hq
    | cont => exact False.elim hq
end
abbrev FWP : List Str := ["links", "source", "bit", "relink", "host", "phase"]
abbrev FWK : List (Str × V) := [("source", .non), ("bit", .int 0), ("relink", .non), ("host", .non), ("phase", .str "reserved")]
abbrev FunF (K : PySem.W.Frag) (f : Addr) (fd : FuncData) : Prop := FunD K "forwards" "forwards" (defArgs s_forwards) (defBody s_forwards) (defScope s_forwards) [] FWK f fd
/-- source, bit, host are written -/
def gA {α : Type} (us mv ws : List α) : List α := match us, mv, ws with
  | [l], [r, p], [s, b, h] => [l, s, b, r, h, p]
  | _, _, _ => []
/-- source is written -/
def gB {α : Type} (us mv ws : List α) : List α := match us, mv, ws with
  | [l], [b, r, h, p], [s] => [l, s, b, r, h, p]
  | _, _, _ => []
/-- source, phase -/
def gC {α : Type} (us mv ws : List α) : List α := match us, mv, ws with
  | [l], [b, r, h], [s, p] => [l, s, b, r, h, p]
  | _, _, _ => []
/-- none -/
def gD {α : Type} (us mv ws : List α) : List α := match us, mv, ws with
  | [l], [s, b, r, h, p], [] => [l, s, b, r, h, p]
  | _, _, _ => []
/-- all but phase -/
def gE {α : Type} (us mv ws : List α) : List α := match us, mv, ws with
  | [l], [p], [s, b, r, h] => [l, s, b, r, h, p]
  | _, _, _ => []
/-- relink, host, phase -/
def gF {α : Type} (us mv ws : List α) : List α := match us, mv, ws with
  | [l], [s, b], [r, h, p] => [l, s, b, r, h, p]
  | _, _, _ => []
section
variable {K : PySem.W.Frag} {f : Addr} {fd : FuncData}
theorem kbA (F : FunF K f fd) : ∃ g, KBn K fd FWP 1 ["source", "bit", "host"] g (fun vs zs => gA vs [.non, .str "reserved"] zs) := by
  have rel : ∀ {vs mz zs : List V} {us mv ws : List Value}, Vals vs us → Vals mz mv → Vals zs ws → Vals (gA vs mz zs) (gA us mv ws) := by
    intro vs mz zs us mv ws r1 r2 r3
    unfold gA
    rcases r1 with _ | ⟨a1, _ | ⟨a2, r⟩⟩ <;> rcases r2 with _ | ⟨b1, _ | ⟨b2, _ | ⟨b3, r⟩⟩⟩ <;> rcases r3 with _ | ⟨c1, _ | ⟨c2, _ | ⟨c3, _ | ⟨c4, r⟩⟩⟩⟩ <;> first
      | exact .nil
      | exact .cons a1 (.cons c1 (.cons c2 (.cons b1 (.cons c3 (.cons b2 .nil)))))
  obtain ⟨mv, h⟩ := F.kbinds0 (ps := FWP) 1 ["source", "bit", "host"] [("relink", .non), ("phase", .str "reserved")] (fun us mv ws => gA us mv ws) (by decide) (by decide) rel fun D doc pm an cdv ct us mv ws l1 l2 l3 => match us, mv, ws, l1, l2, l3 with
    | [_], [_, _], [_, _, _], _, _, _ => ⟨_, _, _, _, _, _, rfl, rfl, _, _, _, _, _, _, rfl, rfl, rfl⟩
  exact ⟨_, h⟩
theorem kbB (F : FunF K f fd) : ∃ g, KBn K fd FWP 1 ["source"] g (fun vs zs => gB vs [.int 0, .non, .non, .str "reserved"] zs) := by
  have rel : ∀ {vs mz zs : List V} {us mv ws : List Value}, Vals vs us → Vals mz mv → Vals zs ws → Vals (gB vs mz zs) (gB us mv ws) := by
    intro vs mz zs us mv ws r1 r2 r3
    unfold gB
    rcases r1 with _ | ⟨a1, _ | ⟨a2, r⟩⟩ <;> rcases r2 with _ | ⟨b1, _ | ⟨b2, _ | ⟨b3, _ | ⟨b4, _ | ⟨b5, r⟩⟩⟩⟩⟩ <;> rcases r3 with _ | ⟨c1, _ | ⟨c2, r⟩⟩ <;> first
      | exact .nil
      | exact .cons a1 (.cons c1 (.cons b1 (.cons b2 (.cons b3 (.cons b4 .nil)))))
  obtain ⟨mv, h⟩ := F.kbinds0 (ps := FWP) 1 ["source"] [("bit", .int 0), ("relink", .non), ("host", .non), ("phase", .str "reserved")] (fun us mv ws => gB us mv ws) (by decide) (by decide) rel fun D doc pm an cdv ct us mv ws l1 l2 l3 => match us, mv, ws, l1, l2, l3 with
    | [_], [_, _, _, _], [_], _, _, _ => ⟨_, _, _, _, _, _, rfl, rfl, _, _, _, _, _, _, rfl, rfl, _, _, _, _, _, _, rfl, rfl, _, _, _, _, _, _, rfl, rfl, rfl⟩
  exact ⟨_, h⟩
theorem kbC (F : FunF K f fd) : ∃ g, KBn K fd FWP 1 ["source", "phase"] g (fun vs zs => gC vs [.int 0, .non, .non] zs) := by
  have rel : ∀ {vs mz zs : List V} {us mv ws : List Value}, Vals vs us → Vals mz mv → Vals zs ws → Vals (gC vs mz zs) (gC us mv ws) := by
    intro vs mz zs us mv ws r1 r2 r3
    unfold gC
    rcases r1 with _ | ⟨a1, _ | ⟨a2, r⟩⟩ <;> rcases r2 with _ | ⟨b1, _ | ⟨b2, _ | ⟨b3, _ | ⟨b4, r⟩⟩⟩⟩ <;> rcases r3 with _ | ⟨c1, _ | ⟨c2, _ | ⟨c3, r⟩⟩⟩ <;> first
      | exact .nil
      | exact .cons a1 (.cons c1 (.cons b1 (.cons b2 (.cons b3 (.cons c2 .nil)))))
  obtain ⟨mv, h⟩ := F.kbinds0 (ps := FWP) 1 ["source", "phase"] [("bit", .int 0), ("relink", .non), ("host", .non)] (fun us mv ws => gC us mv ws) (by decide) (by decide) rel fun D doc pm an cdv ct us mv ws l1 l2 l3 => match us, mv, ws, l1, l2, l3 with
    | [_], [_, _, _], [_, _], _, _, _ => ⟨_, _, _, _, _, _, rfl, rfl, _, _, _, _, _, _, rfl, rfl, _, _, _, _, _, _, rfl, rfl, rfl⟩
  exact ⟨_, h⟩
theorem kbD (F : FunF K f fd) : ∃ g, KBn K fd FWP 1 [] g (fun vs zs => gD vs [.non, .int 0, .non, .non, .str "reserved"] zs) := by
  have rel : ∀ {vs mz zs : List V} {us mv ws : List Value}, Vals vs us → Vals mz mv → Vals zs ws → Vals (gD vs mz zs) (gD us mv ws) := by
    intro vs mz zs us mv ws r1 r2 r3
    unfold gD
    rcases r1 with _ | ⟨a1, _ | ⟨a2, r⟩⟩ <;> rcases r2 with _ | ⟨b1, _ | ⟨b2, _ | ⟨b3, _ | ⟨b4, _ | ⟨b5, _ | ⟨b6, r⟩⟩⟩⟩⟩⟩ <;> rcases r3 with _ | ⟨c1, r⟩ <;> first
      | exact .nil
      | exact .cons a1 (.cons b1 (.cons b2 (.cons b3 (.cons b4 (.cons b5 .nil)))))
  obtain ⟨mv, h⟩ := F.kbinds0 (ps := FWP) 1 [] [("source", .non), ("bit", .int 0), ("relink", .non), ("host", .non), ("phase", .str "reserved")] (fun us mv ws => gD us mv ws) (by decide) (by decide) rel fun D doc pm an cdv ct us mv ws l1 l2 l3 => match us, mv, ws, l1, l2, l3 with
    | [_], [_, _, _, _, _], [], _, _, _ => ⟨_, _, _, _, _, _, rfl, rfl, _, _, _, _, _, _, rfl, rfl, _, _, _, _, _, _, rfl, rfl, _, _, _, _, _, _, rfl, rfl, _, _, _, _, _, _, rfl, rfl, rfl⟩
  exact ⟨_, h⟩
theorem kbE (F : FunF K f fd) : ∃ g, KBn K fd FWP 1 ["source", "bit", "relink", "host"] g (fun vs zs => gE vs [.str "reserved"] zs) := by
  have rel : ∀ {vs mz zs : List V} {us mv ws : List Value}, Vals vs us → Vals mz mv → Vals zs ws → Vals (gE vs mz zs) (gE us mv ws) := by
    intro vs mz zs us mv ws r1 r2 r3
    unfold gE
    rcases r1 with _ | ⟨a1, _ | ⟨a2, r⟩⟩ <;> rcases r2 with _ | ⟨b1, _ | ⟨b2, r⟩⟩ <;> rcases r3 with _ | ⟨c1, _ | ⟨c2, _ | ⟨c3, _ | ⟨c4, _ | ⟨c5, r⟩⟩⟩⟩⟩ <;> first
      | exact .nil
      | exact .cons a1 (.cons c1 (.cons c2 (.cons c3 (.cons c4 (.cons b1 .nil)))))
  obtain ⟨mv, h⟩ := F.kbinds0 (ps := FWP) 1 ["source", "bit", "relink", "host"] [("phase", .str "reserved")] (fun us mv ws => gE us mv ws) (by decide) (by decide) rel fun D doc pm an cdv ct us mv ws l1 l2 l3 => match us, mv, ws, l1, l2, l3 with
    | [_], [_], [_, _, _, _], _, _, _ => ⟨_, _, _, _, _, _, rfl, rfl, rfl⟩
  exact ⟨_, h⟩
theorem kbF (F : FunF K f fd) : ∃ g, KBn K fd FWP 1 ["relink", "host", "phase"] g (fun vs zs => gF vs [.non, .int 0] zs) := by
  have rel : ∀ {vs mz zs : List V} {us mv ws : List Value}, Vals vs us → Vals mz mv → Vals zs ws → Vals (gF vs mz zs) (gF us mv ws) := by
    intro vs mz zs us mv ws r1 r2 r3
    unfold gF
    rcases r1 with _ | ⟨a1, _ | ⟨a2, r⟩⟩ <;> rcases r2 with _ | ⟨b1, _ | ⟨b2, _ | ⟨b3, r⟩⟩⟩ <;> rcases r3 with _ | ⟨c1, _ | ⟨c2, _ | ⟨c3, _ | ⟨c4, r⟩⟩⟩⟩ <;> first
      | exact .nil
      | exact .cons a1 (.cons b1 (.cons b2 (.cons c1 (.cons c2 (.cons c3 .nil)))))
  obtain ⟨mv, h⟩ := F.kbinds0 (ps := FWP) 1 ["relink", "host", "phase"] [("source", .non), ("bit", .int 0)] (fun us mv ws => gF us mv ws) (by decide) (by decide) rel fun D doc pm an cdv ct us mv ws l1 l2 l3 => match us, mv, ws, l1, l2, l3 with
    | [_], [_, _], [_, _, _], _, _, _ => ⟨_, _, _, _, _, _, rfl, rfl, _, _, _, _, _, _, rfl, rfl, rfl⟩
  exact ⟨_, h⟩
end
end My

namespace My
open PySem PySem.Spec PyProof.Rows L2 Gy Xl Xs Xt
section
variable {P : Program} {w : World} {K : PySem.W.Frag} {mg : Str → Option Value} {base : Heap} {H : Hp} {Q : VK} {E : XK} {C U : Addr} {ra pa : Addr} {xs : List Str} {c j : Nat}
theorem use_fwd {ph g : Str} {src : Option Str} {b : Int} (dr : Dr H ra pa xs c) (l12 : xs.length ≤ 12) (jl : j < xs.length) (q : ∀ H', Same H H' → Q (fwd xs c j ph src g b) H') :
    spFwd K C U [.ref ra, .str (xs.getD j ""), .str ph, optV src, .str g, .int b] H Q E := by
  have jm : Nm (xs.getD j "") := dr.nm _ (getD_mem jl)
  have ir := rel_of dr.nm dr.nd dr.l3 dr.cl
  refine ⟨_, _, reld xs c, .str (xs.getD j ""), ph, g, src, b, rfl, dn_reld dr.ra dr.pa, sml_reld dr.nm (by omega) dr.cl, .str _, decide_eq_true (by have := jm.2.1; omega), fun z => ?_, fun xs' c' ed _ => ?_⟩
  · rw [ir] at z
    cases z
  · obtain ⟨rfl, rfl⟩ := reld_inj ed
    refine ⟨fun j' hj H1 s1 => ?_, fun z => ?_⟩
    · rw [posn_at dr.nd jl] at hj
      injection hj with hj
      subst hj
      exact q H1 s1
    · rw [posn_at dr.nd jl] at z
      cases z
theorem use_forw {la : Addr} {ls : List Str} {ph : Str} {src : Option Str} {b : Int} (dr : Dr H ra pa xs c) (l12 : xs.length ≤ 12) (jl : j < xs.length) (hl : SqL K H la (ls.map V.str) ∨ SqT K H la (ls.map V.str)) (l20 : ls.length ≤ 20)
    (q : ∀ ys H' L, ys.Perm ls → sortedS ys = true → Same H H' → H L = none → Lp H' L (sents (fun g => fwd xs c j ph src g b) (gls src ys)) → Q (.ref L) H') :
    spForw K C U [.ref la, optV src, .int b, .ref ra, .str (xs.getD j ""), .str ph] H Q E := by
  have jm : Nm (xs.getD j "") := dr.nm _ (getD_mem jl)
  have ir := rel_of dr.nm dr.nd dr.l3 dr.cl
  refine ⟨la, ls, src, b, _, _, reld xs c, .str (xs.getD j ""), ph, rfl, hl, l20, dn_reld dr.ra dr.pa, sml_reld dr.nm (by omega) dr.cl, .str _, decide_eq_true (by have := jm.2.1; omega), (fun z => by unfold reld at z; cases z), fun _ z => ?_, fun xs' c' ed _ => ?_⟩
  · rw [ir] at z
    cases z
  · obtain ⟨rfl, rfl⟩ := reld_inj ed
    refine ⟨fun z => ?_, fun j' hj => ?_⟩
    · rw [posn_at dr.nd jl] at z
      cases z
    · rw [posn_at dr.nd jl] at hj
      injection hj with hj
      subst hj
      exact q
theorem Lp.but {H' : Hp} {L r : Addr} {ps : List (Str × Int)} (h : Lp H L ps) (n : L ≠ r) (R : Rng H r) (b : But r H H') : Lp H' L ps := by
  obtain ⟨ts, h1, h2⟩ := h
  have pr : ∀ {ts : List Addr} {ps : List (Str × Int)}, PrI H ts ps → PrI H' ts ps := by
    intro ts
    induction ts with
    | nil => intro ps h; cases ps with
      | nil => trivial
      | cons p ps => exact h.elim
    | cons t ts ih => intro ps h; cases ps with
      | nil => exact h.elim
      | cons p ps => exact ⟨h.1.but R b, ih h.2⟩
  exact ⟨ts, b _ _ n h1, pr h2⟩
/-! data -/
def valD : V → PyData
  | .int n => .int n
  | _ => .none
def prsD (ps : List (Str × Int)) : PyData := .list (ps.map fun p => .tuple [.str p.1, .int p.2])
theorem dn_val {f : V} (h : f = .non ∨ ∃ n, f = .int n) : Dn K H f (valD f) := by
  rcases h with rfl | ⟨n, rfl⟩
  · exact .non
  · exact .int n
theorem dn_prs : ∀ {ts : List Addr} {ps : List (Str × Int)}, PrI H ts ps → Dns K H (ts.map V.ref) (ps.map fun p => .tuple [.str p.1, .int p.2])
  | [], [], _ => .nil
  | _ :: _, _ :: _, h => .cons (.tup h.1 (.cons (.str _) (.cons (.int _) .nil))) (dn_prs h.2)
theorem Lp.dn {L : Addr} {ps : List (Str × Int)} (h : Lp H L ps) : Dn K H (.ref L) (prsD ps) := by
  obtain ⟨ts, h1, h2⟩ := h
  exact .lst h1 (dn_prs h2)
end
theorem fwd_val {xs : List Str} {c j : Nat} {ph : Str} {src : Option Str} {g : Str} {b : Int} (hb : b = 0 ∨ b = 1) : fwd xs c j ph src g b = .non ∨ fwd xs c j ph src g b = .int 0 ∨ fwd xs c j ph src g b = .int 1 := by
  unfold fwd endB
  repeat' split
  all_goals first
    | exact .inl rfl
    | exact .inr (.inl rfl)
    | exact .inr (.inr rfl)
    | (rcases hb with rfl | rfl
       · exact .inr (.inl rfl)
       · exact .inr (.inr rfl))
section
variable {K : PySem.W.Frag} {H : Hp} {Q : VK} {E : XK} {C U : Addr}
theorem use_free {la : Addr} {ls : List Str} {ph : Str} {src : Option Str} {b : Int} {h : V} {e : PyData} (hl : SqL K H la (ls.map V.str) ∨ SqT K H la (ls.map V.str)) (l20 : ls.length ≤ 20) (dh : Dn K H h e) (sh : sml e = true)
    (q : ∀ ys H' L, ys.Perm ls → sortedS ys = true → Same H H' → H L = none → Lp H' L ((gls src ys).map fun g => (g, 0)) → Q (.ref L) H') : spForw K C U [.ref la, optV src, .int b, .non, h, .str ph] H Q E :=
  ⟨la, ls, src, b, .non, h, .none, e, ph, rfl, hl, l20, .non, rfl, dh, sh, fun _ => q, (fun z => absurd rfl z), fun xs c ed => by unfold reld at ed; cases ed⟩
theorem gls_yes {src : Option Str} {ys : List Str} {k : Nat} {z : Str} (hz : ys[k]? = some z) (c : (!decide (V.str z = optV src)) = true) : gls src (ys.take (k + 1)) = gls src (ys.take k) ++ [z] := by
  unfold gls
  rw [List.take_add_one, hz, List.filter_append]
  show _ ++ List.filter _ [z] = _
  rw [List.filter_cons_of_pos (by exact c)]
  rfl
theorem gls_no {src : Option Str} {ys : List Str} {k : Nat} {z : Str} (hz : ys[k]? = some z) (c : ¬ (!decide (V.str z = optV src)) = true) : gls src (ys.take (k + 1)) = gls src (ys.take k) := by
  unfold gls
  rw [List.take_add_one, hz, List.filter_append]
  show _ ++ List.filter _ [z] = _
  rw [List.filter_cons_of_neg (by exact c), List.filter_nil, List.append_nil]
theorem gls_none (ys : List Str) : gls none ys = ys := List.filter_eq_self.mpr fun y _ => rfl
theorem gls_len (src : Option Str) (ys : List Str) : (gls src ys).length ≤ ys.length := List.length_filter_le ..
theorem gls_mem {src : Option Str} {ys : List Str} {g : Str} (h : g ∈ gls src ys) : g ∈ ys := (List.mem_filter.mp h).1
theorem prI_upd {M : Addr} {l : List V} {o : HO} (hM : H M = some (.lst l)) : ∀ {ts : List Addr} {ps : List (Str × Int)}, PrI H ts ps → PrI (upd H M o) ts ps
  | [], [], _ => trivial
  | _ :: _, _ :: _, h => ⟨h.1.updL hM, prI_upd hM h.2⟩
theorem Lp.upd {L M : Addr} {l : List V} {o : HO} {ps : List (Str × Int)} (h : Lp H L ps) (hM : H M = some (.lst l)) (ne : L ≠ M) : Lp (L2.upd H M o) L ps := by
  obtain ⟨ts, h1, h2⟩ := h
  exact ⟨ts, by rw [upd_ne ne]; exact h1, prI_upd hM h2⟩
theorem gd_prs {ps : List (Str × Int)} (h : ∀ p ∈ ps, Nm p.1 ∧ (p.2 = 0 ∨ p.2 = 1)) (l : ps.length ≤ 14) : Gd 2 (prsD ps) := by
  refine .lst (by rw [List.length_map]; exact l) (fun d hd => ?_) ?_
  · obtain ⟨p, hp, rfl⟩ := List.mem_map.mp hd
    obtain ⟨h1, h2⟩ := h p hp
    exact .tup2 (.str h1) (.int (by rcases h2 with h2 | h2 <;> rw [h2] <;> decide))
  · match ps with
    | [] => rfl
    | [p] => rfl
    | [p, q] => rfl
    | p :: q :: r :: ps => rfl
theorem lay_prs : ∀ {ps : List (Str × Int)}, (∀ p ∈ ps, Nm p.1) → PyData.canLayAll0 (ps.map fun p => .tuple [.str p.1, .int p.2]) = true ∧ PyData.depthAll (ps.map fun p => .tuple [.str p.1, .int p.2]) ≤ 1
  | [], _ => ⟨rfl, by decide⟩
  | p :: ps, h => by
    obtain ⟨a, b⟩ := lay_prs (ps := ps) fun q hq => h q (List.mem_cons_of_mem _ hq)
    refine ⟨?_, ?_⟩
    · show ((PyData.strOk p.1 && (true && true)) && PyData.canLayAll0 _) = true
      rw [a, nm_ok (h p List.mem_cons_self)]
      rfl
    · show max (max 0 (max 0 0) + 1) (PyData.depthAll _) ≤ 1
      omega
theorem sh_prs {ps : List (Str × Int)} (h : ∀ p ∈ ps, Nm p.1) : (prsD ps).canLay0 = true ∧ SeqAt.shaped (prsD ps) = true := by
  obtain ⟨a, b⟩ := lay_prs h
  have a' : (prsD ps).canLay0 = true := a
  refine ⟨a', ?_⟩
  unfold SeqAt.shaped
  rw [a', Bool.true_and]
  refine decide_eq_true ?_
  show PyData.depthAll _ + 1 ≤ 64
  omega
theorem sh_ends {xs : List Str} (h : ∀ x ∈ xs, Nm x) : (PyData.list (xs.map PyData.str)).canLay0 = true ∧ SeqAt.shaped (.list (xs.map PyData.str)) = true := by
  have a : (PyData.list (xs.map PyData.str)).canLay0 = true := by
    show PyData.canLayAll0 (xs.map PyData.str) = true
    rw [PyProof.Rows.canLayAll_strs', List.all_eq_true]
    exact fun x hx => nm_ok (h x hx)
  refine ⟨a, ?_⟩
  unfold SeqAt.shaped
  rw [a, Bool.true_and]
  refine decide_eq_true ?_
  show PyData.depthAll _ + 1 ≤ 64
  rw [deep_strs]
  decide
theorem gl2 {n : Nat} {a b : List PyData} (ha : Gd n (.list a)) (hb : Gd n (.list b)) : Gd (n + 1) (.list [.list a, .list b]) := .lst (by show 2 ≤ 14; decide) (fun x hx => by
  simp only [List.mem_cons, List.not_mem_nil, or_false] at hx
  rcases hx with rfl | rfl
  · exact ha
  · exact hb) rfl
theorem sq_dn {a : Addr} {xs : List Str} (h : H a = some (.lst (xs.map V.str))) : Dn K H (.ref a) (.list (xs.map PyData.str)) := .lst h (dns_strs xs)
def spPart : Sp := fun vs H Q _ => ∃ r : Addr, vs = [.ref r] ∧ Rng H r ∧ ∀ H', But r H H' → Rng H' r → Q (.bl true) H'
end
end My

namespace My
open PySem PySem.Spec PyProof.Rows L2 Gy Xl Xs Xt
/-! ### what is told of a refused call -/
def R4 (w t : Str) (a b : Bool) : PyData := .list [.str w, .str t, .bool a, .bool b]
def errD (d e : PyData) : PyData := if isRel d = true then R4 "host" e.shown false true else R4 "relink" d.shown true false
structure X32 (K : PySem.W.Frag) (C U R : Addr) : Prop where
  xC : XCl K C
  xU : XCl K U
  mCC : PySem.W.exmOne K (.ref C) (.ref C) = some true
  mUC : PySem.W.exmOne K (.ref U) (.ref C) = some false
  mUU : PySem.W.exmOne K (.ref U) (.ref U) = some true
  kCR : PySem.W.kitOne K (.ref C) (.ref R) = some true
  kCL : PySem.W.kitOne K (.ref C) (.type "LookupError") = some false
  kUR : PySem.W.kitOne K (.ref U) (.ref R) = some false
  kUL : PySem.W.kitOne K (.ref U) (.type "LookupError") = some true
  fC : PySem.W.findIn K (.ref C) "value" = some none
  fU : PySem.W.findIn K (.ref U) "host" = some none
theorem xf_of {K : PySem.W.Frag} {C : Addr} (x : XCl K C) : XfC K C := ⟨x.ga, x.gg, x.ex, x.hd⟩
section
variable {P : Program} {w : World} {K : PySem.W.Frag} {mg : Str → Option Value} {base : Heap} {H : Hp}
theorem dn_R4 {l : Addr} {a b : Str} {x y : Bool} (h : H l = some (.lst [.str a, .str b, .bl x, .bl y])) : Dn K H (.ref l) (R4 a b x y) := .lst h (.cons (.str _) (.cons (.str _) (.cons (.bl _) (.cons (.bl _) .nil))))
theorem sh_R4 {w t : Str} {a b : Bool} (h1 : PyData.strOk w = true) (h2 : PyData.strOk t = true) : (R4 w t a b).canLay0 = true ∧ SeqAt.shaped (R4 w t a b) = true := by
  have e : (R4 w t a b).canLay0 = true := by
    show (PyData.strOk w && (PyData.strOk t && (true && (true && true)))) = true
    rw [h1, h2]
    rfl
  refine ⟨e, ?_⟩
  unfold SeqAt.shaped
  rw [e]
  rfl
def spErr (K : PySem.W.Frag) : Sp := fun vs H Q _ => ∃ (v h : V) (d e : PyData) (la : Addr) (ls : List Str) (i : Int), vs = [v, h, .ref la, .int i] ∧ Dn K H v d ∧ Dn K H h e ∧ Gd 3 d ∧ Gd 3 e ∧ d ≠ .none ∧ H la = some (.lst (ls.map V.str)) ∧ ls.length ≤ 20 ∧
  (∀ xs c, d = reld xs c → isRel d = true → posn xs e = none) ∧ ∀ H' L, Same H H' → Dn K H' (.ref L) (errD d e) → Q (.ref L) H'
theorem ok_err {f C U R : Addr} {fd : FuncData} (F : Fun K "_law_error" "_law_error" s_law_error f fd) (Y : Bn mg) (gC : mg "InvalidRelink" = some (.ref C)) (gU : mg "UnknownHost" = some (.ref U)) (gR : mg "RelinkTreeError" = some (.ref R)) (gL : mg "LookupError" = none) (X : X32 K C U R) (G : Cg K)
    (GF_forwards : Fw P w K mg base (L2.CX P w) 8 "forwards" FWP 1 ["relink", "host", "phase"] (fun vs zs => gF vs [.non, .int 0] zs) (spForw K C U))
    (G_forward_bit : Fk P w K mg base (L2.CX P w) 7 "forward_bit" ["relink", "host", "phase", "source", "goal", "bit"] (spFwd K C U)) : FnG P w K mg base CX0 9 f fd ["_law_ring", "_law_who", "_law_ends", "_law_way"] (spErr K) := by
  refine fun_g0 F sc_law_error (fun {vs H Q E} h => ?_) (fun cdv A outer s H vs Q E gd hr h => ?_)
  · obtain ⟨v, h, d, e, la, ls, i, rfl, _⟩ := h
    rfl
  · obtain ⟨v, h, d, e, la, ls, i, rfl, dn, dh, gd', ge, nn, hl, l20, np, q⟩ := h
    have hu70 := Room.units70 hr
    refine ⟨_, pss_cons (ps_set (i := 4) sc_law_error.nd rfl (.inl rfl) pe_str)
      (pss_cons (ps_try_manyAs (i := 5) (n := "e") rfl rfl sc_law_error.nd rfl rfl takes0
        (fun W pn xe tk _ => pss_one (ps_if (pt_cmpR op_eq (pv 3) pe_int (nomark _))
          (pss_one (ps_set (i := 4) sc_law_error.nd rfl (.inl rfl) (pe_callNSF GF_forwards (hr.mono (by decide)) (by rfl) (fun σ => passAt tk σ) (pa_cons (pv 2) pa_nil) (pk_cons (pv 0) (pk_cons (pv 1) (pk_cons pe_str pk_nil))))))
          (pss_one (ps_set (i := 4) sc_law_error.nd rfl (.inl rfl) (pe_callSF G_forward_bit (hr.mono (by decide)) (by rfl) (fun σ => passAt tk σ) (pa_cons (pv 0) (pa_cons (pv 1) (pa_cons pe_str (pa_cons pe_non (pa_cons pe_str (pa_cons pe_int pa_nil)))))))))))
        (.cons ⟨rfl, by decide, .inl gC⟩ (fun a oe cls d pn hz hf => pss_one (ps_set (i := 4) sc_law_error.nd rfl (.inl rfl) (pe_lst (pa_cons pe_str (pa_cons (pe_callB (show CallR _ (.builtin "repr") (rReprN K) from repr_dn gd hu70) (by rfl) Y.repr (by decide +kernel) (pa_cons (pe_xf (xf_of X.xC) X.fC hz hf (pv 5)) pa_nil))
            (pa_cons (pe_callB (show CallR _ (.builtin "isinstance") (rIsS K a cls d) from call_isS G.cg G.ct hz hf) (by rfl) Y.isinstance (by decide +kernel) (pa_cons (pv 5) (pa_cons (pe_glob (v := .ref R) (by rfl) gR rfl) pa_nil)))
            (pa_cons (pe_callB (show CallR _ (.builtin "isinstance") (rIsS K a cls d) from call_isS G.cg G.ct hz hf) (by rfl) Y.isinstance (by decide +kernel) (pa_cons (pv 5) (pa_cons (pe_bltn (v := .ty "LookupError") (by rfl) gL (by decide +kernel) rfl) pa_nil))) pa_nil)))))))
        (.cons ⟨rfl, by decide, .inl gU⟩ (fun a oe cls d pn hz hf => pss_one (ps_set (i := 4) sc_law_error.nd rfl (.inl rfl) (pe_lst (pa_cons pe_str (pa_cons (pe_callB (show CallR _ (.builtin "repr") (rReprN K) from repr_dn gd hu70) (by rfl) Y.repr (by decide +kernel) (pa_cons (pe_xf (xf_of X.xU) X.fU hz hf (pv 5)) pa_nil))
            (pa_cons (pe_callB (show CallR _ (.builtin "isinstance") (rIsS K a cls d) from call_isS G.cg G.ct hz hf) (by rfl) Y.isinstance (by decide +kernel) (pa_cons (pv 5) (pa_cons (pe_glob (v := .ref R) (by rfl) gR rfl) pa_nil)))
            (pa_cons (pe_callB (show CallR _ (.builtin "isinstance") (rIsS K a cls d) from call_isS G.cg G.ct hz hf) (by rfl) Y.isinstance (by decide +kernel) (pa_cons (pv 5) (pa_cons (pe_bltn (v := .ty "LookupError") (by rfl) gL (by decide +kernel) rfl) pa_nil))) pa_nil))))))) .nil)))
      (pss_one (ps_ret (pv 4)))), ?_⟩
    have fd0 := tam.fits gd'.tm (by have := gd'.dp; omega)
    have fe0 := tam.fits ge.tm (by have := ge.dp; omega)
    refine ⟨_, rfl, rfl, _, rfl, ite2 (fun _ => ?A) (fun _ => ?B)⟩
    case' A =>
      refine ⟨_, rfl, _, rfl, _, rfl, rfl, rfl, la, ls, none, 0, v, h, d, e, "turned", rfl, .inl (SqL.of hl), l20, dn, tam.sml gd'.tm, dh, tam.sml ge.tm, fun z => absurd z nn, fun _ ir H1 dx s1 e1 => ?_, fun xs c ed ir => ⟨fun _ H1 dx s1 e1 => ?_, fun j pj => ?_⟩⟩
    case' B =>
      refine ⟨_, rfl, _, rfl, v, h, d, e, "turned", "a", none, 0, rfl, dn, tam.sml gd'.tm, dh, tam.sml ge.tm, fun ir H1 dx s1 e1 => ?_, fun xs c ed ir => ⟨fun j pj => ?_, fun _ H1 dx s1 e1 => ?_⟩⟩
    all_goals first
      | (exact absurd ((np xs c ed ir).symm.trans pj) (by simp))
      | (have er : errD d e = R4 "relink" d.shown true false := by
           unfold errD
           rw [ir]
           rfl
         rw [er] at q
         refine ⟨true, X.mCC, fun _ a na => ?_, fun z => nomatch z⟩
         refine ⟨_, rfl, rfl, rfl, dx, _, _, rfl, e1, rfl, _, d, rfl, dn.same s1, fd0.1, fd0.2.1, fd0.2.2, ?_⟩
         refine ⟨_, rfl, C, dx, _, .ref R, .ref R, true, rfl, rfl, rfl, e1, X.xC, .own R, X.kCR, ?_⟩
         refine ⟨_, rfl, C, dx, _, .ty "LookupError", .type "LookupError", false, rfl, rfl, rfl, e1, X.xC, .ty _, X.kCL, ?_⟩
         refine ⟨(by show 4 ≤ sizeLine; decide), fun L nL => ?_⟩
         exact ⟨_, rfl, q _ L (s1.trans (same_upd nL)) (dn_R4 upd_same)⟩)
      | (have er : errD d e = R4 "host" e.shown false true := by
           unfold errD
           rw [if_pos ir]
         rw [er] at q
         refine ⟨false, X.mUC, fun z => (nomatch z), fun _ => ⟨true, X.mUU, fun _ a na => ?_, fun z => nomatch z⟩⟩
         refine ⟨_, rfl, rfl, rfl, dx, _, _, rfl, e1, rfl, _, e, rfl, dh.same s1, fe0.1, fe0.2.1, fe0.2.2, ?_⟩
         refine ⟨_, rfl, U, dx, _, .ref R, .ref R, false, rfl, rfl, rfl, e1, X.xU, .own R, X.kUR, ?_⟩
         refine ⟨_, rfl, U, dx, _, .ty "LookupError", .type "LookupError", true, rfl, rfl, rfl, e1, X.xU, .ty _, X.kUL, ?_⟩
         refine ⟨(by show 4 ≤ sizeLine; decide), fun L nL => ?_⟩
         exact ⟨_, rfl, q _ L (s1.trans (same_upd nL)) (dn_R4 upd_same)⟩)
end
end My

namespace My
open PySem PySem.Spec PyProof.Rows L2 Gy Xl Xs Xt
def oddE (xs : List Str) : List PyData := [.int 0, .bool false, .str "", .tuple [], .list [], .dict [], .tuple (xs.map PyData.str), .list [.tuple ((xs.take 3).map PyData.str), .int 1], .tuple [.tuple ((xs.take 2).map PyData.str), .int 0], .tuple [.tuple ((xs.take 3).map PyData.str), .int 2], .tuple [.tuple ((xs.take 3).map PyData.str), .bool true], .tuple [.tuple ((xs.take 3).map PyData.str), .int (-1)], .tuple [.list ((xs.take 3).map PyData.str), .int 1], .tuple [.tuple ((xs.take 2).map PyData.str ++ (xs.take 1).map PyData.str), .int 0], .tuple [.tuple ((xs.take 3).map PyData.str), .none], .tuple [.tuple ((xs.take 2).map PyData.str ++ [.str "A"]), .int 0], .tuple [.tuple ((xs.take 3).map PyData.str), .int 1, .int 1]]
theorem oddE_bad {xs : List Str} (nm : ∀ x ∈ xs, Nm x) (nd : xs.Nodup) (l4 : xs.length = 4) : ∀ d ∈ oddE xs, isRel d = false ∧ Gd 3 d ∧ d ≠ .none := by
  have t1 : ∀ x ∈ xs.take 1, Nm x := fun x hx => nm x (List.mem_of_mem_take hx)
  have t2 : ∀ x ∈ xs.take 2, Nm x := fun x hx => nm x (List.mem_of_mem_take hx)
  have t3 : ∀ x ∈ xs.take 3, Nm x := fun x hx => nm x (List.mem_of_mem_take hx)
  have l1 : (xs.take 1).length = 1 := by rw [List.length_take]; omega
  have l2 : (xs.take 2).length = 2 := by rw [List.length_take]; omega
  have l3 : (xs.take 3).length = 3 := by rw [List.length_take]; omega
  have P2 : Gd 2 (.tuple ((xs.take 2).map PyData.str)) := .path t2 (by omega)
  have P3 : Gd 2 (.tuple ((xs.take 3).map PyData.str)) := .path t3 (by omega)
  intro d hd
  unfold oddE at hd
  simp only [List.mem_cons, List.not_mem_nil, or_false] at hd
  rcases hd with rfl | rfl | rfl | rfl | rfl | rfl | rfl | rfl | rfl | rfl | rfl | rfl | rfl | rfl | rfl | rfl | rfl
  · exact ⟨rfl, .int (by decide), fun z => nomatch z⟩
  · exact ⟨rfl, .bl, fun z => nomatch z⟩
  · exact ⟨rfl, .txt, fun z => nomatch z⟩
  · exact ⟨rfl, .tup (by show 0 ≤ 14; decide) (fun _ h => nomatch h), fun z => nomatch z⟩
  · exact ⟨rfl, .lst (by show 0 ≤ 14; decide) (fun _ h => nomatch h) rfl, fun z => nomatch z⟩
  · exact ⟨rfl, .dic, fun z => nomatch z⟩
  · exact ⟨isRel_n (by rw [List.length_map]; omega), .path nm (by omega), fun z => nomatch z⟩
  · refine ⟨rfl, .lst (by show 2 ≤ 14; decide) (fun x hx => ?_) rfl, fun z => nomatch z⟩
    simp only [List.mem_cons, List.not_mem_nil, or_false] at hx
    rcases hx with rfl | rfl
    · exact P3
    · exact .int (by decide)
  · exact ⟨rel_p (path_few (by rw [List.length_map]; omega)), .tup2 P2 (.int (by decide)), fun z => nomatch z⟩
  · exact ⟨rel_c (idx_int (.inr (by rw [List.length_map, l3]; decide))), .tup2 P3 (.int (by decide)), fun z => nomatch z⟩
  · exact ⟨rel_c rfl, .tup2 P3 .bl, fun z => nomatch z⟩
  · exact ⟨rel_c (idx_int (.inl (by decide))), .tup2 P3 (.int (by decide)), fun z => nomatch z⟩
  · refine ⟨rel_p rfl, .tup2 (n := 2) (.lst (by rw [List.length_map]; omega) (.strs t3) ?_) (.int (by decide)), fun z => nomatch z⟩
    cases xs.take 3 <;> rfl
  · refine ⟨rel_p ?_, .tup2 (n := 2) (.snoc t2 (.strs t1) (by rw [List.length_map]; omega)) (.int (by decide)), fun z => nomatch z⟩
    rw [← List.map_append]
    refine path_dbl fun z => ?_
    rw [List.nodup_append] at z
    have m1 : xs.getD 0 "" ∈ xs.take 1 := by
      match xs, l4 with
      | y :: ys, _ => exact List.mem_cons_self
    have m2 : xs.getD 0 "" ∈ xs.take 2 := by
      match xs, l4 with
      | y :: y2 :: ys, _ => exact List.mem_cons_self
    exact absurd rfl (z.2.2 _ m2 _ m1)
  · exact ⟨rel_c rfl, .tup2 P3 .non, fun z => nomatch z⟩
  · exact ⟨rel_p (path_bad (List.mem_append_right _ List.mem_cons_self) (by decide +kernel)), .tup2 (n := 2) (.snoc t2 (fun d hd => by rw [List.mem_singleton.mp hd]; exact .txt) (by show (xs.take 2).length + 1 ≤ 14; omega)) (.int (by decide)), fun z => nomatch z⟩
  · exact ⟨isRel_n (by show 3 ≠ 2; decide), .tup3 P3 (.int (by decide)) (.int (by decide)), fun z => nomatch z⟩
theorem things_bad {xs : List Str} (nm : ∀ x ∈ xs, Nm x) (nd : xs.Nodup) (l4 : xs.length = 4) : ∀ d ∈ ([.none, .str (xs.getD 3 ""), .str "", .int 0, .list [], .dict [], .tuple ((xs.take 1).map PyData.str), .tuple (xs.map PyData.str), .bool true] : List PyData), posn (xs.take 3) d = none ∧ Gd 3 d := by
  have t3 : ∀ x ∈ xs.take 3, Nm x := fun x hx => nm x (List.mem_of_mem_take hx)
  have t1 : ∀ x ∈ xs.take 1, Nm x := fun x hx => nm x (List.mem_of_mem_take hx)
  have l1 : (xs.take 1).length = 1 := by rw [List.length_take]; omega
  intro d hd
  simp only [List.mem_cons, List.not_mem_nil, or_false] at hd
  rcases hd with rfl | rfl | rfl | rfl | rfl | rfl | rfl | rfl | rfl
  · exact ⟨rfl, .non⟩
  · refine ⟨if_neg fun m => ?_, .str (nm _ (getD_mem (by omega)))⟩
    match xs, l4 with
    | [a, b, c, e], _ =>
      simp only [List.nodup_cons, List.mem_cons, List.not_mem_nil, or_false, not_or] at nd
      have m' : e ∈ [a, b, c] := m
      simp only [List.mem_cons, List.not_mem_nil, or_false] at m'
      rcases m' with rfl | rfl | rfl
      · exact nd.1.2.2 rfl
      · exact nd.2.1.2 rfl
      · exact nd.2.2.1 rfl
  · exact ⟨if_neg fun m => absurd (t3 _ m).1 (by decide), .txt⟩
  · exact ⟨rfl, .int (by decide)⟩
  · exact ⟨rfl, .lst (by show 0 ≤ 14; decide) (fun _ h => nomatch h) rfl⟩
  · exact ⟨rfl, .dic⟩
  · exact ⟨rfl, .path t1 (by omega)⟩
  · exact ⟨rfl, .path nm (by omega)⟩
  · exact ⟨rfl, .bl⟩
section
variable {P : Program} {w : World} {K : PySem.W.Frag} {mg : Str → Option Value} {base : Heap} {H : Hp}
theorem ok_ref {f : Addr} {fd : FuncData} (F : Fun K "_law_refused_right" "_law_refused_right" s_law_refused_right f fd) (Y : Bn mg) (G_law_pick : Fk P w K mg base CX0 2 "_law_pick" ["_law_pot_here", "_law_some"] (spPick K))
    (G_law_names : Fk P w K mg base CX0 3 "_law_names" ["_law_pot_here", "_law_many"] spNames) (G_law_error : Fg P w K mg base CX0 9 "_law_error" ["_law_ring", "_law_who", "_law_ends", "_law_way"] (spErr K)) : FnG P w K mg base CX0 10 f fd ["_law_pot_here"] spPart := by
  refine fun_g0 F sc_law_refused_right (fun {vs H Q E} h => ?_) (fun cdv A outer s H vs Q E gd hr h => ?_)
  · obtain ⟨r, rfl, _⟩ := h
    rfl
  · obtain ⟨r, rfl, R, q⟩ := h
    have hu70 := Room.units70 hr
    have hu64 := hr.units
    refine ⟨_, (pss_cons (ps_set (i := 1) sc_law_refused_right.nd rfl (.inl rfl) (pe_callTy call_tupOf (by rfl) Y.tuple (by decide +kernel) (pa_cons (pe_callF G_law_names (hr.mono (by decide)) (by rfl) pass0 (pa_cons (pv 0) (pa_cons pe_int pa_nil))) pa_nil)))
 (pss_cons (ps_set (i := 2) sc_law_refused_right.nd rfl (.inl rfl) (pe_tupZ (pa_cons (pe_slice sl_cutA (pv 1) po_none (po_some pe_int)) (pa_cons pe_int pa_nil))))
 (pss_cons (ps_set (i := 3) sc_law_refused_right.nd rfl (.inl rfl) (pe_lst (pa_cons pe_int (pa_cons pe_bl (pa_cons pe_str (pa_cons (pe_tupZ pa_nil) (pa_cons (pe_lst pa_nil) (pa_cons pe_dnewK (pa_cons (pv 1) (pa_cons (pe_callTy call_list_of (by rfl) Y.list (by decide +kernel) (pa_cons (pv 2) pa_nil)) (pa_cons (pe_tupZ (pa_cons (pe_slice sl_cutA (pv 1) po_none (po_some pe_int)) (pa_cons pe_int pa_nil))) (pa_cons (pe_tupZ (pa_cons (pe_slice sl_cutA (pv 1) po_none (po_some pe_int)) (pa_cons pe_int pa_nil))) (pa_cons (pe_tupZ (pa_cons (pe_slice sl_cutA (pv 1) po_none (po_some pe_int)) (pa_cons pe_bl pa_nil))) (pa_cons (pe_tupZ (pa_cons (pe_slice sl_cutA (pv 1) po_none (po_some pe_int)) (pa_cons (pe_un un_neg pe_int) pa_nil))) pa_nil))))))))))))))
 (pss_cons (ps_set (i := 3) sc_law_refused_right.nd rfl (.inl rfl) (pe_op op_cat (pv 3) (pe_lst (pa_cons (pe_tupZ (pa_cons (pe_callTy call_list_of (by rfl) Y.list (by decide +kernel) (pa_cons (pe_slice sl_cutA (pv 1) po_none (po_some pe_int)) pa_nil)) (pa_cons pe_int pa_nil))) (pa_cons (pe_tupZ (pa_cons (pe_op op_sum (pe_slice sl_cutA (pv 1) po_none (po_some pe_int)) (pe_slice sl_cutA (pv 1) po_none (po_some pe_int))) (pa_cons pe_int pa_nil))) (pa_cons (pe_tupZ (pa_cons (pe_slice sl_cutA (pv 1) po_none (po_some pe_int)) (pa_cons pe_non pa_nil))) (pa_cons (pe_tupZ (pa_cons (pe_op op_sum (pe_slice sl_cutA (pv 1) po_none (po_some pe_int)) (pe_tupZ (pa_cons pe_str pa_nil))) (pa_cons pe_int pa_nil))) (pa_cons (pe_op op_sum (pv 2) (pe_tupZ (pa_cons pe_int pa_nil))) pa_nil))))))))
 (pss_cons (ps_set (i := 4) sc_law_refused_right.nd rfl (.inl rfl) (pe_callF G_law_pick (hr.mono (by decide)) (by rfl) pass0 (pa_cons (pv 0) (pa_cons (pv 3) pa_nil))))
 (pss_cons (ps_for PassesOwn.never rfl (pi_range1 (by rfl) Y.range (pa_cons pe_int pa_nil)) (pg_name (i := 5) sc_law_refused_right.nd rfl (Or.inl rfl))
 (pss_one (ps_for PassesOwn.never rfl (pi_tup (pe_tupZ (pa_cons (pe_lst pa_nil) (pa_cons (pe_lst (pa_cons pe_str pa_nil)) pa_nil)))) (pg_name (i := 6) sc_law_refused_right.nd rfl (Or.inl rfl))
 (pss_cons (ps_if (pt_cmpR (op_neD hu64) (pe_callFg (E := E0) G_law_error gd (hr.mono (by decide)) (by rfl) pass0 (pa_cons (pv 4) (pa_cons (pe_ix ix_tup (pv 1) pe_int (fun _ _ => rfl)) (pa_cons (pv 6) (pa_cons (pv 5) pa_nil))))) (pe_lst (pa_cons pe_str (pa_cons (pe_callB (repr_dn gd hu70) (by rfl) Y.repr (by decide +kernel) (pa_cons (pv 4) pa_nil)) (pa_cons pe_bl (pa_cons pe_bl pa_nil))))) (nomark _))
 (pss_one (ps_ret pe_bl))
 pss_nil)
 (pss_one (ps_for PassesOwn.never rfl (pi_list (pe_lst (pa_cons pe_non (pa_cons (pe_ix ix_tup (pv 1) pe_int (fun _ _ => rfl)) (pa_cons pe_str (pa_cons pe_int (pa_cons (pe_lst pa_nil) (pa_cons pe_dnewK (pa_cons (pe_slice sl_cutA (pv 1) po_none (po_some pe_int)) (pa_cons (pv 1) (pa_cons pe_bl pa_nil))))))))))) (pg_name (i := 7) sc_law_refused_right.nd rfl (Or.inl rfl))
 (pss_cons (ps_if (pt_cmpR (op_neD hu64) (pe_callFg (E := E0) G_law_error gd (hr.mono (by decide)) (by rfl) pass0 (pa_cons (pv 2) (pa_cons (pv 7) (pa_cons (pv 6) (pa_cons (pv 5) pa_nil))))) (pe_lst (pa_cons pe_str (pa_cons (pe_callB (repr_dn gd hu70) (by rfl) Y.repr (by decide +kernel) (pa_cons (pv 7) pa_nil)) (pa_cons pe_bl (pa_cons pe_bl pa_nil))))) (nomark _))
 (pss_one (ps_ret pe_bl))
 pss_nil)
 (pss_one (ps_if (pt_cmpR (op_neD hu64) (pe_callFg (E := E0) G_law_error gd (hr.mono (by decide)) (by rfl) pass0 (pa_cons (pv 4) (pa_cons (pv 7) (pa_cons (pv 6) (pa_cons (pv 5) pa_nil))))) (pe_lst (pa_cons pe_str (pa_cons (pe_callB (repr_dn gd hu70) (by rfl) Y.repr (by decide +kernel) (pa_cons (pv 4) pa_nil)) (pa_cons pe_bl (pa_cons pe_bl pa_nil))))) (nomark _))
 (pss_one (ps_ret pe_bl))
 pss_nil)))))))))
 (pss_one (ps_ret pe_bl)))))))), ?_⟩
    refine ⟨_, rfl, r, 4, rfl, R, by decide, fun H1 L xs b0 R nL hL el nm nd => ?_⟩
    refine ⟨L, _, rfl, SqL.of hL, (by rw [List.length_map]; omega), fun pa o1 npa s1 pz => ?_⟩
    have b0 := b0.trans (But.of s1)
    have R := R.same s1
    generalize upd _ pa o1 = H2 at b0 R pz ⊢
    clear hL nL s1 npa
    refine ⟨_, rfl, _, rfl, pa, _, rfl, pz, ?_⟩
    rw [show (some (3 : Int)) = some ((3 : Nat) : Int) from rfl, cutn xs (by omega)]
    refine ⟨fun z => absurd z (take_ne (by omega)), fun t101 o101 n101 s101 z101 => ?_⟩
    have pz := pz.same s101
    have R := R.same s101
    have b0 := b0.trans (But.of s101)
    generalize upd _ t101 o101 = H101 at pz R b0 z101 ⊢
    have g3 := z101
    refine ⟨(by show 2 ≤ sizeLine; decide), fun t102 o102 n102 s102 z102 => ?_⟩
    have pz := pz.same s102
    have R := R.same s102
    have b0 := b0.trans (But.of s102)
    have g3 := g3.same s102
    generalize upd _ t102 o102 = H102 at pz R b0 g3 z102 ⊢
    have gz := z102
    have D : Dns K H102 [] [] := .nil
    have D := D.snoc (.int 0)
    have D := D.snoc (.bl false)
    have D := D.snoc (.str "")
    refine ⟨(by show 0 ≤ sizeLine; decide), fun t103 o103 n103 s103 z103 => ?_⟩
    have pz := pz.same s103
    have R := R.same s103
    have b0 := b0.trans (But.of s103)
    have g3 := g3.same s103
    have gz := gz.same s103
    have D := D.same s103
    generalize upd _ t103 o103 = H103 at pz R b0 g3 gz D z103 ⊢
    have D := D.snoc (.tup z103 .nil)
    refine ⟨(by show 0 ≤ sizeLine; decide), fun l104 n104 => ?_⟩
    have ne104 := Rng.ne R n104
    generalize hg : upd _ l104 _ = H104
    obtain ⟨s104, gx⟩ := upd_new hg n104
    clear hg
    have pz := pz.same s104
    have R := R.same s104
    have b0 := b0.trans (But.of s104)
    have g3 := g3.same s104
    have gz := gz.same s104
    have D := D.same s104
    have D := D.snoc (.lst gx .nil)
    clear gx
    refine fun l105 n105 => ?_
    have ne105 := Rng.ne R n105
    generalize hg : upd _ l105 _ = H105
    obtain ⟨s105, gx⟩ := upd_new hg n105
    clear hg
    have pz := pz.same s105
    have R := R.same s105
    have b0 := b0.trans (But.of s105)
    have g3 := g3.same s105
    have gz := gz.same s105
    have D := D.same s105
    have D := D.snoc (.dic gx)
    clear gx
    refine ⟨_, rfl, ?_⟩
    have D := D.snoc (.tup pz (dns_strs xs))
    refine ⟨_, rfl, t102, _, rfl, .inr gz.sq, fun l106 n106 => ?_⟩
    generalize hg : upd _ l106 _ = H106
    obtain ⟨s106, gx⟩ := upd_new hg n106
    clear hg
    have pz := pz.same s106
    have R := R.same s106
    have b0 := b0.trans (But.of s106)
    have g3 := g3.same s106
    have gz := gz.same s106
    have D := D.same s106
    have D := D.snoc (.lst gx (.cons (.tup g3 (dns_strs (xs.take 3))) (.cons (.int _) .nil)))
    clear gx
    refine ⟨_, rfl, _, rfl, pa, _, rfl, pz, ?_⟩
    rw [show (some (2 : Int)) = some ((2 : Nat) : Int) from rfl, cutn xs (by omega)]
    refine ⟨fun z => absurd z (take_ne (by omega)), fun t107 o107 n107 s107 z107 => ?_⟩
    have pz := pz.same s107
    have R := R.same s107
    have b0 := b0.trans (But.of s107)
    have g3 := g3.same s107
    have gz := gz.same s107
    have D := D.same s107
    generalize upd _ t107 o107 = H107 at pz R b0 g3 gz D z107 ⊢
    refine ⟨(by show 2 ≤ sizeLine; decide), fun t108 o108 n108 s108 z108 => ?_⟩
    have pz := pz.same s108
    have R := R.same s108
    have b0 := b0.trans (But.of s108)
    have g3 := g3.same s108
    have gz := gz.same s108
    have D := D.same s108
    have z107 := z107.same s108
    generalize upd _ t108 o108 = H108 at pz R b0 g3 gz D z108 z107 ⊢
    have D := D.snoc (.tup z108 (.cons (.tup z107 (dns_strs (xs.take 2))) (.cons (.int _) .nil)))
    refine ⟨_, rfl, _, rfl, pa, _, rfl, pz, ?_⟩
    rw [show (some (3 : Int)) = some ((3 : Nat) : Int) from rfl, cutn xs (by omega)]
    refine ⟨fun z => absurd z (take_ne (by omega)), fun t109 o109 n109 s109 z109 => ?_⟩
    have pz := pz.same s109
    have R := R.same s109
    have b0 := b0.trans (But.of s109)
    have g3 := g3.same s109
    have gz := gz.same s109
    have D := D.same s109
    generalize upd _ t109 o109 = H109 at pz R b0 g3 gz D z109 ⊢
    refine ⟨(by show 2 ≤ sizeLine; decide), fun t110 o110 n110 s110 z110 => ?_⟩
    have pz := pz.same s110
    have R := R.same s110
    have b0 := b0.trans (But.of s110)
    have g3 := g3.same s110
    have gz := gz.same s110
    have D := D.same s110
    have z109 := z109.same s110
    generalize upd _ t110 o110 = H110 at pz R b0 g3 gz D z110 z109 ⊢
    have D := D.snoc (.tup z110 (.cons (.tup z109 (dns_strs (xs.take 3))) (.cons (.int _) .nil)))
    refine ⟨_, rfl, _, rfl, pa, _, rfl, pz, ?_⟩
    rw [show (some (3 : Int)) = some ((3 : Nat) : Int) from rfl, cutn xs (by omega)]
    refine ⟨fun z => absurd z (take_ne (by omega)), fun t111 o111 n111 s111 z111 => ?_⟩
    have pz := pz.same s111
    have R := R.same s111
    have b0 := b0.trans (But.of s111)
    have g3 := g3.same s111
    have gz := gz.same s111
    have D := D.same s111
    generalize upd _ t111 o111 = H111 at pz R b0 g3 gz D z111 ⊢
    refine ⟨(by show 2 ≤ sizeLine; decide), fun t112 o112 n112 s112 z112 => ?_⟩
    have pz := pz.same s112
    have R := R.same s112
    have b0 := b0.trans (But.of s112)
    have g3 := g3.same s112
    have gz := gz.same s112
    have D := D.same s112
    have z111 := z111.same s112
    generalize upd _ t112 o112 = H112 at pz R b0 g3 gz D z112 z111 ⊢
    have D := D.snoc (.tup z112 (.cons (.tup z111 (dns_strs (xs.take 3))) (.cons (.bl _) .nil)))
    refine ⟨_, rfl, _, rfl, pa, _, rfl, pz, ?_⟩
    rw [show (some (3 : Int)) = some ((3 : Nat) : Int) from rfl, cutn xs (by omega)]
    refine ⟨fun z => absurd z (take_ne (by omega)), fun t113 o113 n113 s113 z113 => ?_⟩
    have pz := pz.same s113
    have R := R.same s113
    have b0 := b0.trans (But.of s113)
    have g3 := g3.same s113
    have gz := gz.same s113
    have D := D.same s113
    generalize upd _ t113 o113 = H113 at pz R b0 g3 gz D z113 ⊢
    refine ⟨_, rfl, (by show 2 ≤ sizeLine; decide), fun t114 o114 n114 s114 z114 => ?_⟩
    have pz := pz.same s114
    have R := R.same s114
    have b0 := b0.trans (But.of s114)
    have g3 := g3.same s114
    have gz := gz.same s114
    have D := D.same s114
    have z113 := z113.same s114
    generalize upd _ t114 o114 = H114 at pz R b0 g3 gz D z114 z113 ⊢
    have D := D.snoc (.tup z114 (.cons (.tup z113 (dns_strs (xs.take 3))) (.cons (.int _) .nil)))
    refine ⟨(by show 12 ≤ sizeLine; decide), fun l115 n115 => ?_⟩
    have ne115 := Rng.ne R n115
    generalize hg : upd _ l115 _ = H115
    obtain ⟨s115, g1⟩ := upd_new hg n115
    clear hg
    have pz := pz.same s115
    have R := R.same s115
    have b0 := b0.trans (But.of s115)
    have g3 := g3.same s115
    have gz := gz.same s115
    have D := D.same s115
    refine ⟨_, rfl, ?_⟩
    refine ⟨_, rfl, _, rfl, pa, _, rfl, pz, ?_⟩
    rw [show (some (3 : Int)) = some ((3 : Nat) : Int) from rfl, cutn xs (by omega)]
    refine ⟨fun z => absurd z (take_ne (by omega)), fun t116 o116 n116 s116 z116 => ?_⟩
    have pz := pz.same s116
    have R := R.same s116
    have b0 := b0.trans (But.of s116)
    have g3 := g3.same s116
    have gz := gz.same s116
    have D := D.same s116
    have g1 := s116 _ _ g1
    generalize upd _ t116 o116 = H116 at pz R b0 g3 gz D g1 z116 ⊢
    refine ⟨t116, _, rfl, .inr z116.sq, fun l117 n117 => ?_⟩
    generalize hg : upd _ l117 _ = H117
    obtain ⟨s117, gx⟩ := upd_new hg n117
    clear hg
    have pz := pz.same s117
    have R := R.same s117
    have b0 := b0.trans (But.of s117)
    have g3 := g3.same s117
    have gz := gz.same s117
    have D := D.same s117
    have g1 := s117 _ _ g1
    refine ⟨(by show 2 ≤ sizeLine; decide), fun t118 o118 n118 s118 z118 => ?_⟩
    have pz := pz.same s118
    have R := R.same s118
    have b0 := b0.trans (But.of s118)
    have g3 := g3.same s118
    have gz := gz.same s118
    have D := D.same s118
    have g1 := s118 _ _ g1
    have gx := s118 _ _ gx
    generalize upd _ t118 o118 = H118 at pz R b0 g3 gz D g1 z118 gx ⊢
    have D := D.snoc (.tup z118 (.cons (.lst gx (dns_strs (xs.take 3))) (.cons (.int _) .nil)))
    clear gx
    refine ⟨_, rfl, _, rfl, pa, _, rfl, pz, ?_⟩
    rw [show (some (2 : Int)) = some ((2 : Nat) : Int) from rfl, cutn xs (by omega)]
    refine ⟨fun z => absurd z (take_ne (by omega)), fun t119 o119 n119 s119 z119 => ?_⟩
    have pz := pz.same s119
    have R := R.same s119
    have b0 := b0.trans (But.of s119)
    have g3 := g3.same s119
    have gz := gz.same s119
    have D := D.same s119
    have g1 := s119 _ _ g1
    generalize upd _ t119 o119 = H119 at pz R b0 g3 gz D g1 z119 ⊢
    refine ⟨_, rfl, _, rfl, pa, _, rfl, pz, ?_⟩
    rw [show (some (1 : Int)) = some ((1 : Nat) : Int) from rfl, cutn xs (by omega)]
    refine ⟨fun z => absurd z (take_ne (by omega)), fun t120 o120 n120 s120 z120 => ?_⟩
    have pz := pz.same s120
    have R := R.same s120
    have b0 := b0.trans (But.of s120)
    have g3 := g3.same s120
    have gz := gz.same s120
    have D := D.same s120
    have g1 := s120 _ _ g1
    have z119 := z119.same s120
    generalize upd _ t120 o120 = H120 at pz R b0 g3 gz D g1 z120 z119 ⊢
    refine ⟨t119, t120, _, _, rfl, rfl, z119, z120, (by simp only [List.length_map, List.length_take, List.length_cons, List.length_nil]; exact Nat.le_trans (show _ ≤ 20 by omega) (by decide)), (fun z => ?_), (fun z => ?_), fun t121 o121 n121 s121 z121 => ?_⟩
    · have z := congrArg List.length z
      simp only [List.length_map, List.length_take, List.length_cons, List.length_nil] at z
      omega
    · have z := congrArg List.length z
      simp only [List.length_map, List.length_take, List.length_cons, List.length_nil] at z
      omega
    have pz := pz.same s121
    have R := R.same s121
    have b0 := b0.trans (But.of s121)
    have g3 := g3.same s121
    have gz := gz.same s121
    have D := D.same s121
    have g1 := s121 _ _ g1
    generalize upd _ t121 o121 = H121 at pz R b0 g3 gz D g1 z121 ⊢
    refine ⟨(by show 2 ≤ sizeLine; decide), fun t122 o122 n122 s122 z122 => ?_⟩
    have pz := pz.same s122
    have R := R.same s122
    have b0 := b0.trans (But.of s122)
    have g3 := g3.same s122
    have gz := gz.same s122
    have D := D.same s122
    have g1 := s122 _ _ g1
    have z121 := z121.same s122
    generalize upd _ t122 o122 = H122 at pz R b0 g3 gz D g1 z122 z121 ⊢
    have D := D.snoc (.tup z122 (.cons (.tup z121 (.app (dns_strs (xs.take 2)) (dns_strs (xs.take 1)))) (.cons (.int _) .nil)))
    refine ⟨_, rfl, _, rfl, pa, _, rfl, pz, ?_⟩
    rw [show (some (3 : Int)) = some ((3 : Nat) : Int) from rfl, cutn xs (by omega)]
    refine ⟨fun z => absurd z (take_ne (by omega)), fun t123 o123 n123 s123 z123 => ?_⟩
    have pz := pz.same s123
    have R := R.same s123
    have b0 := b0.trans (But.of s123)
    have g3 := g3.same s123
    have gz := gz.same s123
    have D := D.same s123
    have g1 := s123 _ _ g1
    generalize upd _ t123 o123 = H123 at pz R b0 g3 gz D g1 z123 ⊢
    refine ⟨(by show 2 ≤ sizeLine; decide), fun t124 o124 n124 s124 z124 => ?_⟩
    have pz := pz.same s124
    have R := R.same s124
    have b0 := b0.trans (But.of s124)
    have g3 := g3.same s124
    have gz := gz.same s124
    have D := D.same s124
    have g1 := s124 _ _ g1
    have z123 := z123.same s124
    generalize upd _ t124 o124 = H124 at pz R b0 g3 gz D g1 z124 z123 ⊢
    have D := D.snoc (.tup z124 (.cons (.tup z123 (dns_strs (xs.take 3))) (.cons (.non) .nil)))
    refine ⟨_, rfl, _, rfl, pa, _, rfl, pz, ?_⟩
    rw [show (some (2 : Int)) = some ((2 : Nat) : Int) from rfl, cutn xs (by omega)]
    refine ⟨fun z => absurd z (take_ne (by omega)), fun t125 o125 n125 s125 z125 => ?_⟩
    have pz := pz.same s125
    have R := R.same s125
    have b0 := b0.trans (But.of s125)
    have g3 := g3.same s125
    have gz := gz.same s125
    have D := D.same s125
    have g1 := s125 _ _ g1
    generalize upd _ t125 o125 = H125 at pz R b0 g3 gz D g1 z125 ⊢
    refine ⟨(by show 1 ≤ sizeLine; decide), fun t126 o126 n126 s126 z126 => ?_⟩
    have pz := pz.same s126
    have R := R.same s126
    have b0 := b0.trans (But.of s126)
    have g3 := g3.same s126
    have gz := gz.same s126
    have D := D.same s126
    have g1 := s126 _ _ g1
    have z125 := z125.same s126
    generalize upd _ t126 o126 = H126 at pz R b0 g3 gz D g1 z126 z125 ⊢
    refine ⟨t125, t126, _, _, rfl, rfl, z125, z126, (by simp only [List.length_map, List.length_take, List.length_cons, List.length_nil]; exact Nat.le_trans (show _ ≤ 20 by omega) (by decide)), (fun z => ?_), (fun z => ?_), fun t127 o127 n127 s127 z127 => ?_⟩
    · have z := congrArg List.length z
      simp only [List.length_map, List.length_take, List.length_cons, List.length_nil] at z
      omega
    · have z := congrArg List.length z
      simp only [List.length_map, List.length_take, List.length_cons, List.length_nil] at z
      omega
    have pz := pz.same s127
    have R := R.same s127
    have b0 := b0.trans (But.of s127)
    have g3 := g3.same s127
    have gz := gz.same s127
    have D := D.same s127
    have g1 := s127 _ _ g1
    generalize upd _ t127 o127 = H127 at pz R b0 g3 gz D g1 z127 ⊢
    refine ⟨(by show 2 ≤ sizeLine; decide), fun t128 o128 n128 s128 z128 => ?_⟩
    have pz := pz.same s128
    have R := R.same s128
    have b0 := b0.trans (But.of s128)
    have g3 := g3.same s128
    have gz := gz.same s128
    have D := D.same s128
    have g1 := s128 _ _ g1
    have z127 := z127.same s128
    generalize upd _ t128 o128 = H128 at pz R b0 g3 gz D g1 z128 z127 ⊢
    have D := D.snoc (.tup z128 (.cons (.tup z127 (.app (dns_strs (xs.take 2)) (.cons (.str _) .nil))) (.cons (.int _) .nil)))
    refine ⟨_, rfl, ?_⟩
    refine ⟨(by show 1 ≤ sizeLine; decide), fun t129 o129 n129 s129 z129 => ?_⟩
    have pz := pz.same s129
    have R := R.same s129
    have b0 := b0.trans (But.of s129)
    have g3 := g3.same s129
    have gz := gz.same s129
    have D := D.same s129
    have g1 := s129 _ _ g1
    generalize upd _ t129 o129 = H129 at pz R b0 g3 gz D g1 z129 ⊢
    refine ⟨t102, t129, _, _, rfl, rfl, gz, z129, (by show 3 ≤ sizeLine; decide), (fun z => nomatch z), (fun z => nomatch z), fun t130 o130 n130 s130 z130 => ?_⟩
    have pz := pz.same s130
    have R := R.same s130
    have b0 := b0.trans (But.of s130)
    have g3 := g3.same s130
    have gz := gz.same s130
    have D := D.same s130
    have g1 := s130 _ _ g1
    generalize upd _ t130 o130 = H130 at pz R b0 g3 gz D g1 z130 ⊢
    have D := D.snoc (.tup z130 (.cons (.tup g3 (dns_strs (xs.take 3))) (.cons (.int _) (.cons (.int _) .nil))))
    refine ⟨(by show 5 ≤ sizeLine; decide), fun l131 n131 => ?_⟩
    have ne131 := Rng.ne R n131
    generalize hg : upd _ l131 _ = H131
    obtain ⟨s131, gm⟩ := upd_new hg n131
    clear hg
    have pz := pz.same s131
    have R := R.same s131
    have b0 := b0.trans (But.of s131)
    have g3 := g3.same s131
    have gz := gz.same s131
    have D := D.same s131
    have g1 := s131 _ _ g1
    refine ⟨l115, l131, _, _, rfl, rfl, g1, gm, (by show 17 ≤ sizeLine; decide), fun a4 n132 => ?_⟩
    have ne4 := Rng.ne R n132
    generalize hg : upd _ a4 _ = H132
    obtain ⟨s132, g4⟩ := upd_new hg n132
    clear hg gm g1
    have pz := pz.same s132
    have R := R.same s132
    have b0 := b0.trans (But.of s132)
    have g3 := g3.same s132
    have gz := gz.same s132
    have D := D.same s132
    simp only [List.cons_append, List.nil_append] at D g4
    refine ⟨_, rfl, _, rfl, r, _, rfl, R, .inr ⟨a4, _, rfl, ne4, g4, (by show 0 < 17; decide), (by show 17 ≤ 1000; decide), fun H' v0 b' R' mu => ?_⟩⟩
    obtain ⟨d0, md, dn0⟩ := Dns.mem D mu
    obtain ⟨ir0, g0, nn0⟩ := oddE_bad nm nd el d0 md
    have dn0 := dn0.but R b' g0.np
    have pz := pz.but R b'
    have g3 := g3.but R b'
    have gz := gz.but R b'
    have b0 := b0.trans b'
    clear mu md D g4 b' R
    generalize a4 = lO
    generalize t102 = tG at gz ⊢
    generalize t101 = p3 at gz g3
    have D0 : Dn K H' (.ref tG) (reld (xs.take 3) 1) := dn_reld gz g3
    have nm3 : ∀ x ∈ xs.take 3, Nm x := fun x hx => nm x (List.mem_of_mem_take hx)
    have l3 : (xs.take 3).length = 3 := by rw [List.length_take]; omega
    have ir : isRel (reld (xs.take 3) 1) = true := rel_of nm3 (nd.sublist (List.take_sublist _ _)) (by omega) (by omega)
    have gG : Gd 3 (reld (xs.take 3) 1) := .tup2 (.path nm3 (by omega)) (.int (by decide))
    have gh : ∀ i, i < 4 → Gd 3 (.str (xs.getD i "")) := fun i hi => .str (nm _ (getD_mem (by omega)))
    have F0 := tam.fits g0.tm (by have := g0.dp; omega)
    have er0 : ∀ e, errD d0 e = R4 "relink" d0.shown true false := fun e => by
      unfold errD
      rw [ir0]
      rfl
    have sh0 := sh_R4 (w := "relink") (a := true) (b := false) (by decide +kernel) (tam.so g0.tm)
    have er1 : ∀ e, errD (reld (xs.take 3) 1) e = R4 "host" e.shown false true := fun e => by
      unfold errD
      rw [if_pos ir]
    have noR : ∀ {d e : PyData}, isRel d = false → ∀ ys c, d = reld ys c → isRel d = true → posn ys e = none := fun z ys c _ i => by
      rw [z] at i
      cases i
    refine ⟨2, rfl, by decide, by decide, ?_⟩
    refine for_it (walk_range (lo := 0) (n := 2)) (fun i σ H9 => (∃ a5 a6 a7, σ = [some (.ref r), some (.ref pa), some (.ref tG), some (.ref lO), some v0, a5, a6, a7]) ∧ Same H' H9)
      ⟨⟨_, _, _, rfl⟩, Same.refl _⟩ (fun _ _ _ _ _ => trivial) ?_ ?_
    · rintro i y σ H6 H7 hi ⟨⟨a5, a6, a7, rfl⟩, s6⟩ ⟨rfl, rfl⟩
      refine ⟨(by show 0 ≤ sizeLine; decide), fun e1 ne1 => ?_⟩
      generalize hg : upd _ e1 _ = H8
      obtain ⟨s8, ge1⟩ := upd_new hg ne1
      clear hg
      refine ⟨(by show 1 ≤ sizeLine; decide), fun e2 ne2 => ?_⟩
      generalize hg : upd _ e2 _ = H9
      obtain ⟨s9, ge2⟩ := upd_new hg ne2
      clear hg
      refine ⟨(by show 2 ≤ sizeLine; decide), fun te o10 n10 s10 ze => ?_⟩
      generalize upd _ te o10 = H10 at s10 ze ⊢
      have ge1 := s10 _ _ (s9 _ _ ge1)
      have ge2 := s10 _ _ ge2
      have sA := s6.trans (s8.trans (s9.trans s10))
      refine ⟨te, rfl, ⟨_, ze.sq⟩, ?_⟩
      refine for_it (walk_tup (K := K) (a := te) (xs := [.ref e1, .ref e2])) (fun i2 σ H9 => (∃ a6 a7, σ = [some (.ref r), some (.ref pa), some (.ref tG), some (.ref lO), some v0, some (.int (0 + (i : Int))), a6, a7]) ∧ Same H10 H9)
        ⟨⟨_, _, rfl⟩, Same.refl _⟩ (fun _ _ _ _ h => (ze.same h.2).sq) ?_ ?_
      · rintro i2 y σ H11 H12 hi2 ⟨⟨a6, a7, rfl⟩, s11⟩ ⟨rfl, hy⟩
        obtain ⟨ea, els, rfl, hea, lea⟩ : ∃ (ea : Addr) (els : List Str), y = .ref ea ∧ H10 ea = some (.lst (els.map V.str)) ∧ els.length ≤ 20 := by
          rcases (show i2 = 0 ∨ i2 = 1 by have : i2 < 2 := hi2; omega) with rfl | rfl
          · injection hy with hy
            exact ⟨e1, [], hy.symm, ge1, by decide⟩
          · injection hy with hy
            exact ⟨e2, ["a"], hy.symm, ge2, by decide⟩
        clear hy
        have sB := sA.trans s11
        have heB := s11 _ _ hea
        -- the odd relink, the first host
        refine ⟨_, rfl, _, rfl, pa, _, 0, _, rfl, rfl, (pz.same sB).sq, at_nat (i := 0) (by omega), _, rfl, _, rfl, v0, .str (xs.getD 0 ""), d0, .str (xs.getD 0 ""), ea, els, _, rfl, dn0.same sB, .str _, g0, gh 0 (by decide), nn0, heB, lea, noR ir0, fun H13 L13 s13 dT => ?_⟩
        rw [er0] at dT
        refine ⟨_, rfl, _, d0, rfl, (dn0.same sB).same s13, F0.1, F0.2.1, F0.2.2, (by show 4 ≤ sizeLine; decide), fun l14 n14 => ?_⟩
        generalize hg : upd _ l14 _ = H14
        obtain ⟨s14, g14⟩ := upd_new hg n14
        clear hg
        refine ⟨_, _, (dT.same s14).dp sh0.1, (dn_R4 g14).dp sh0.1, sh0.2, sh0.2, _, rfl, ?_⟩
        rw [SeqAt.eqv_refl _ sh0.1]
        refine iteF ?_
        have sC := s13.trans s14
        have sD := sB.trans sC
        -- the things
        skip
        generalize H14 = HA at sD sC ⊢
        have pzA := pz.same sD
        have D : Dns K HA [] [] := .nil
        have D := D.snoc .non
        refine ⟨_, rfl, pa, _, 3, _, rfl, rfl, pzA.sq, at_nat (i := 3) (by omega), ?_⟩
        have D := D.snoc (.str (xs.getD 3 ""))
        have D := D.snoc (.str "")
        have D := D.snoc (.int 0)
        refine ⟨(by show 0 ≤ sizeLine; decide), fun m1 q1 => ?_⟩
        generalize hg : upd _ m1 _ = HB
        obtain ⟨w1, gx⟩ := upd_new hg q1
        clear hg
        have D := (D.same w1).snoc (.lst gx .nil)
        refine fun m2 q2 => ?_
        generalize hg : upd _ m2 _ = HC
        obtain ⟨w2, gx⟩ := upd_new hg q2
        clear hg
        have D := (D.same w2).snoc (.dic gx)
        have pzC := (pzA.same w1).same w2
        refine ⟨_, rfl, _, rfl, pa, _, rfl, pzC, ?_⟩
        rw [show (some (1 : Int)) = some ((1 : Nat) : Int) from rfl, cutn xs (by omega)]
        refine ⟨fun z => absurd z (take_ne (by omega)), fun m3 o3 q3 w3 z3 => ?_⟩
        generalize upd _ m3 o3 = HD at w3 z3 ⊢
        have D := (D.same w3).snoc (.tup z3 (dns_strs (xs.take 1)))
        have pzD := pzC.same w3
        refine ⟨_, rfl, ?_⟩
        have D := D.snoc (.tup pzD (dns_strs xs))
        have D := D.snoc (.bl true)
        simp only [List.cons_append, List.nil_append] at D
        refine ⟨(by show 9 ≤ sizeLine; decide), fun m4 q4 => ?_⟩
        generalize hg : upd _ m4 _ = HE
        obtain ⟨w4, g9⟩ := upd_new hg q4
        clear hg
        have D := D.same w4
        have sE := sC.trans (w1.trans (w2.trans (w3.trans w4)))
        refine ⟨m4, rfl, ⟨_, SqL.of g9⟩, ?_⟩
        refine for_it (walk_list (K := K) (a := m4) (xs := [.non, .str (xs.getD 3 ""), .str "", .int 0, .ref m1, .ref m2, .ref m3, .ref pa, .bl true])) (fun i3 σ H9 => (∃ a7, σ = [some (.ref r), some (.ref pa), some (.ref tG), some (.ref lO), some v0, some (.int (0 + (i : Int))), some (.ref ea), a7]) ∧ Same HE H9)
          ⟨⟨_, rfl⟩, Same.refl _⟩ (fun _ _ _ _ h => SqL.of (h.2 _ _ g9)) ?_ ?_
        · rintro i3 y σ H15 H16 hi3 ⟨⟨a7, rfl⟩, s16⟩ ⟨rfl, hy⟩
          obtain ⟨e, me, dne⟩ := Dns.mem D (List.mem_of_getElem? hy)
          obtain ⟨ne, gge⟩ := things_bad nm nd el e me
          clear hy me
          have sF := sE.trans s16
          have FE := tam.fits gge.tm (by have := gge.dp; omega)
          have shE := sh_R4 (w := "host") (a := false) (b := true) (by decide +kernel) (tam.so gge.tm)
          have dn0F := (dn0.same sB).same sF
          refine ⟨_, rfl, _, rfl, _, rfl, _, rfl, .ref tG, y, reld (xs.take 3) 1, e, ea, els, _, rfl, (D0.same sB).same sF, dne.same s16, gG, gge, (fun z => nomatch z), sF _ _ heB, lea, fun ys c ed _ => ?_, fun H17 L17 s17 dT => ?_⟩
          · obtain ⟨rfl, rfl⟩ := reld_inj ed
            exact ne
          rw [er1] at dT
          refine ⟨_, rfl, _, e, rfl, (dne.same s16).same s17, FE.1, FE.2.1, FE.2.2, (by show 4 ≤ sizeLine; decide), fun l18 n18 => ?_⟩
          generalize hg : upd _ l18 _ = H18
          obtain ⟨s18, g18⟩ := upd_new hg n18
          clear hg
          refine ⟨_, _, (dT.same s18).dp shE.1, (dn_R4 g18).dp shE.1, shE.2, shE.2, _, rfl, ?_⟩
          rw [SeqAt.eqv_refl _ shE.1]
          refine iteF ?_
          have sG := s17.trans s18
          refine ⟨_, rfl, _, rfl, _, rfl, _, rfl, v0, y, d0, e, ea, els, _, rfl, dn0F.same sG, (dne.same s16).same sG, g0, gge, nn0, sG _ _ (sF _ _ heB), lea, noR ir0, fun H19 L19 s19 dT => ?_⟩
          rw [er0] at dT
          refine ⟨_, rfl, _, d0, rfl, (dn0F.same sG).same s19, F0.1, F0.2.1, F0.2.2, (by show 4 ≤ sizeLine; decide), fun l20 n20 => ?_⟩
          generalize hg : upd _ l20 _ = H20
          obtain ⟨s20, g20⟩ := upd_new hg n20
          clear hg
          refine ⟨_, _, (dT.same s20).dp sh0.1, (dn_R4 g20).dp sh0.1, sh0.2, sh0.2, _, rfl, ?_⟩
          rw [SeqAt.eqv_refl _ sh0.1]
          refine iteF ?_
          exact ⟨⟨_, rfl⟩, s16.trans (sG.trans (s19.trans s20))⟩
        · rintro σ H15 ⟨⟨a7, rfl⟩, s15⟩
          exact ⟨⟨_, _, rfl⟩, s11.trans (sE.trans s15)⟩
      · rintro σ H11 ⟨⟨a6, a7, rfl⟩, s11⟩
        exact ⟨⟨_, _, _, rfl⟩, sA.trans s11⟩
    · rintro σ H6 ⟨⟨a5, a6, a7, rfl⟩, s6⟩
      exact q _ (b0.trans (But.of s6)) (R'.same s6)
end
end My

namespace My
open PySem PySem.Spec PyProof.Rows L2 Gy Xl Xs Xt
section
variable {P : Program} {w : World} {K : PySem.W.Frag} {mg : Str → Option Value} {base : Heap} {H : Hp}
theorem ok_free {f C U : Addr} {fd : FuncData} (F : Fun K "_law_free_right" "_law_free_right" s_law_free_right f fd) (Y : Bn mg) (G_law_draw : Fk P w K mg base CX0 1 "_law_draw" ["_law_pot_here", "_law_many"] spDraw) (G_law_pick : Fk P w K mg base CX0 2 "_law_pick" ["_law_pot_here", "_law_some"] (spPick K))
    (G_law_names : Fk P w K mg base CX0 3 "_law_names" ["_law_pot_here", "_law_many"] spNames)
    (GA_f : Fw P w K mg base (L2.CX P w) 8 "forwards" FWP 1 ["source", "bit", "host"] (fun vs zs => gA vs [.non, .str "reserved"] zs) (spForw K C U)) (GB_f : Fw P w K mg base (L2.CX P w) 8 "forwards" FWP 1 ["source"] (fun vs zs => gB vs [.int 0, .non, .non, .str "reserved"] zs) (spForw K C U))
    (GC_f : Fw P w K mg base (L2.CX P w) 8 "forwards" FWP 1 ["source", "phase"] (fun vs zs => gC vs [.int 0, .non, .non] zs) (spForw K C U)) (GD_f : Fw P w K mg base (L2.CX P w) 8 "forwards" FWP 1 [] (fun vs zs => gD vs [.non, .int 0, .non, .non, .str "reserved"] zs) (spForw K C U)) :
    FnG P w K mg base CX0 9 f fd ["_law_pot_here"] spPart := by
  refine fun_g0 F sc_law_free_right (fun {vs H Q E} h => ?_) (fun cdv A outer s H vs Q E gd hr h => ?_)
  · obtain ⟨r, rfl, _⟩ := h
    rfl
  · obtain ⟨r, rfl, R, q⟩ := h
    have hu70 := Room.units70 hr
    have hu64 := hr.units
    refine ⟨_, (pss_cons (ps_set (i := 1) sc_law_free_right.nd rfl (.inl rfl) (pe_callF G_law_names (hr.mono (by decide)) (by rfl) pass0 (pa_cons (pv 0) (pa_cons (pe_callF G_law_draw (hr.mono (by decide)) (by rfl) pass0 (pa_cons (pv 0) (pa_cons pe_int pa_nil))) pa_nil))))
 (pss_cons (ps_set (i := 2) sc_law_free_right.nd rfl (.inr rfl) (pe_callF G_law_pick (hr.mono (by decide)) (by rfl) pass0 (pa_cons (pv 0) (pa_cons (pe_op op_cat (pe_lst (pa_cons pe_non (pa_cons pe_str pa_nil))) (pv 1)) pa_nil))))
 (pss_cons (ps_setLc (i := 3) (own := [("_law_aim", 8)]) (g := gName 8) (tt := tTest (tOp rNe (tVar 8) (tVar 2))) rfl sc_law_free_right.nd rfl rfl (sw_true rfl rfl rfl (by decide +kernel)) (pi_list (pe_callB cr_sortedS (by rfl) Y.sorted (by decide +kernel) (pa_cons (pv 1) pa_nil))) (blkOk_by (N := ["_law_pot_here", "_law_ends", "_law_origin", "_law_due", "_law_kept", "_law_given", "_law_told", "_law_again", "_law_aim"]) (sc := defScope s_law_free_right) (by decide +kernel)) (fun _ _ _ _ _ => (pg_name (i := 8) sc_law_free_right.nd rfl (Or.inl rfl))) (fun _ _ _ _ _ => (pts_one (pt_cmpR op_ne (pv 8) (pv 2) (nomark _)))) (fun _ _ _ _ _ => (pe_tupZ (pa_cons (pv 8) (pa_cons pe_int pa_nil)))))
 (pss_cons (ps_set (i := 4) sc_law_free_right.nd rfl (.inl rfl) (pe_callTy call_list_of (by rfl) Y.list (by decide +kernel) (pa_cons (pv 1) pa_nil)))
 (pss_cons (ps_set (i := 5) sc_law_free_right.nd rfl (.inl rfl) (pe_ix ix_list (pe_lst (pa_cons (pv 1) (pa_cons (pe_callTy call_tupOf (by rfl) Y.tuple (by decide +kernel) (pa_cons (pv 1) pa_nil)) pa_nil))) (pe_callF G_law_draw (hr.mono (by decide)) (by rfl) pass0 (pa_cons (pv 0) (pa_cons pe_int pa_nil))) (fun _ _ => rfl)))
 (pss_cons (ps_set (i := 6) sc_law_free_right.nd rfl (.inl rfl) (pe_callNF GA_f (hr.mono (by decide)) (by rfl) passN (pa_cons (pv 5) pa_nil) (pk_cons (pv 2) (pk_cons (pe_callF G_law_draw (hr.mono (by decide)) (by rfl) pass0 (pa_cons (pv 0) (pa_cons pe_int pa_nil))) (pk_cons (pe_callF G_law_pick (hr.mono (by decide)) (by rfl) pass0 (pa_cons (pv 0) (pa_cons (pe_lst (pa_cons pe_non (pa_cons pe_str (pa_cons pe_str pa_nil)))) pa_nil))) pk_nil)))))
 (pss_cons (ps_set (i := 7) sc_law_free_right.nd rfl (.inl rfl) (pe_callNF GB_f (hr.mono (by decide)) (by rfl) passN (pa_cons (pv 5) pa_nil) (pk_cons (pv 2) pk_nil)))
 (pss_cons (ps_if (PW.pt (pw_or (pt_cmpR op_ne (pe_callB (repr_dn gd hu70) (by rfl) Y.repr (by decide +kernel) (pa_cons (pe_lst (pa_cons (pv 6) (pa_cons (pv 7) pa_nil))) pa_nil)) (pe_callB (repr_dn gd hu70) (by rfl) Y.repr (by decide +kernel) (pa_cons (pe_lst (pa_cons (pv 3) (pa_cons (pv 3) pa_nil))) pa_nil)) (nomark _)) (pw_or1 (pt_cmpR (op_neD hu64) (pe_callTy call_list_of (by rfl) Y.list (by decide +kernel) (pa_cons (pv 5) pa_nil)) (pv 4) (nomark _)))))
 (pss_one (ps_ret pe_bl))
 pss_nil)
 (pss_cons (ps_expr (pe_bm PySem.F.plainAttrs_list PySem.F.slot_list_append PySem.F.type_list_append mt_append (pv 6) (pa_cons pe_non pa_nil)))
 (pss_cons (ps_expr (pe_bm0 PySem.F.plainAttrs_list PySem.F.slot_list_reverse PySem.F.type_list_reverse mt_reverse (pv 1)))
 (pss_cons (ps_if (pt_cmpR (op_neD hu64) (pe_callNF GC_f (hr.mono (by decide)) (by rfl) passN (pa_cons (pv 5) pa_nil) (pk_cons (pv 2) (pk_cons pe_str pk_nil))) (pv 3) (nomark _))
 (pss_one (ps_ret pe_bl))
 pss_nil)
 (pss_one (ps_ret (pe_cmpR (op_eqD hu64) (pe_callNF GD_f (hr.mono (by decide)) (by rfl) passN (pa_cons (pv 1) pa_nil) pk_nil) (pe_lc (own := [("_law_aim", 8)]) (g := gName 8) (tt := tYes) rfl sc_law_free_right.nd (pi_list (pe_callB cr_sortedS (by rfl) Y.sorted (by decide +kernel) (pa_cons (pv 1) pa_nil))) (blkOk_by (N := ["_law_pot_here", "_law_ends", "_law_origin", "_law_due", "_law_kept", "_law_given", "_law_told", "_law_again", "_law_aim"]) (sc := defScope s_law_free_right) (by decide +kernel)) (fun _ _ _ _ _ => (pg_name (i := 8) sc_law_free_right.nd rfl (Or.inl rfl))) (fun _ _ _ _ _ => pts_nil) (fun _ _ _ _ _ => (pe_tupZ (pa_cons (pv 8) (pa_cons pe_int pa_nil))))) (nomark _))))))))))))))), ?_⟩
    -- ends
    refine ⟨_, rfl, _, rfl, r, 10, rfl, R, by decide, by decide, fun H1 d b0 R d0 d1 => ?_⟩
    obtain ⟨dn, rfl⟩ := Int.eq_ofNat_of_zero_le d0
    refine ⟨r, dn, rfl, R, by omega, fun H2 L ns b1 R2 nL hL el nm nd => ?_⟩
    have neL : L ≠ r := R.ne nL
    have nL0 : H L = none := by
      cases z : H L with
      | none => rfl
      | some o =>
        rw [b0 _ _ neL z] at nL
        cases nL
    have b0 := b0.trans b1
    have R := R2
    clear b1 nL R2
    -- origin
    refine ⟨_, rfl, (by show 2 ≤ sizeLine; decide), fun l1 n1 => ?_⟩
    generalize hg : upd _ l1 _ = H3
    obtain ⟨s3, g1⟩ := upd_new hg n1
    clear hg
    refine ⟨_, rfl, l1, L, _, _, rfl, rfl, g1, s3 _ _ hL, (by rw [List.length_map]; exact Nat.le_trans (show 2 + ns.length ≤ 20 by omega) (by decide)), fun p1 np1 => ?_⟩
    have ne1 : p1 ≠ r := (R.same s3).ne np1
    generalize hg : upd _ p1 _ = H4
    obtain ⟨s4, gp⟩ := upd_new hg np1
    clear hg
    have R := (R.same s3).same s4
    have hL := s4 _ _ (s3 _ _ hL)
    refine ⟨r, _, rfl, R, .inr ⟨p1, _, rfl, ne1, gp, (by rw [List.length_append]; show 0 < 2 + _; omega), (by rw [List.length_append, List.length_map]; show 2 + _ ≤ 1000; omega), fun H5 u b5 R5 mu => ?_⟩⟩
    obtain ⟨src, rfl⟩ : ∃ src : Option Str, u = optV src := by
      rcases List.mem_append.mp mu with mu | mu
      · simp only [List.mem_cons, List.not_mem_nil, or_false] at mu
        rcases mu with rfl | rfl
        · exact ⟨none, rfl⟩
        · exact ⟨some _, rfl⟩
      · obtain ⟨x, _, rfl⟩ := List.mem_map.mp mu
        exact ⟨some x, rfl⟩
    have hL := b5 _ _ neL hL
    have b0 := b0.trans ((But.of (s3.trans s4)).trans b5)
    have R := R5
    clear mu gp g1 R5 b5
    -- due
    refine ⟨_, rfl, L, ns, rfl, SqL.of hL, by omega, fun ys p2 perm srt np2 => ?_⟩
    generalize hg : upd _ p2 _ = H6
    obtain ⟨s6, hp2⟩ := upd_new hg np2
    clear hg
    have yl : ys.length ≤ 20 := by
      rw [perm.length_eq]
      omega
    refine ⟨p2, rfl, ⟨_, SqL.of hp2⟩, fun D nD => ?_⟩
    refine lc_it (walk_list (K := K) (a := p2) (xs := ys.map V.str)) (fun i H' => Same H6 H' ∧ ∃ ts : List Addr, H' D = some (.lst (ts.map V.ref)) ∧ ts.length ≤ i ∧ PrI H' ts ((gls src (ys.take i)).map fun g => (g, 0)))
      ⟨same_upd nD, [], upd_same, Nat.le_refl _, trivial⟩ (fun i H' _ h => SqL.of (h.1 _ _ hp2)) ?_ ?_
    · rintro k y HX HY hk ⟨s3, ts, hD, tl, pr⟩ ⟨rfl, hy⟩
      rw [List.getElem?_map] at hy
      obtain ⟨z, hz, rfl⟩ := Option.map_eq_some_iff.mp hy
      rw [List.length_map] at hk
      refine ⟨rfl, ?_⟩
      refine ⟨_, rfl, _, rfl, scal_opt z src, _, rfl, ite2 (fun c8 => ?_) (fun c8 => ?_)⟩
      · refine ⟨_, rfl, (by show 2 ≤ sizeLine; decide), fun t o nt st tz => ?_⟩
        refine ⟨_, st _ _ hD, ?_, same_upd2 (s3.trans st) nD, ts ++ [t], ?_, ?_, ?_⟩
        · rw [List.length_map]
          exact small200 (by omega)
        · rw [upd_same, List.map_append]
          rfl
        · rw [List.length_append]
          show ts.length + 1 ≤ k + 1
          omega
        · rw [gls_yes hz c8, List.map_append]
          exact (pr.same st).snoc_upd (st _ _ hD) tz
      · refine ⟨s3, ts, hD, by omega, ?_⟩
        rw [gls_no hz c8]
        exact pr
    rintro H7 ⟨s7, ts, hD, tl, pr⟩
    rw [List.length_map, List.take_of_length_le (Nat.le_refl _)] at pr
    have s57 := s6.trans s7
    have hL := s57 _ _ hL
    have R := R.same s57
    have b0 := b0.trans (But.of s57)
    have neD : D ≠ L := fun z => by
      rw [z] at nD
      rw [s6 _ _ (show H5 L = _ by assumption)] at nD
      cases nD
    have neDr : D ≠ r := fun z => by
      obtain ⟨x, y, e, _⟩ := (show Rng H6 r from (show Rng H5 r by assumption).same s6)
      rw [z, e] at nD
      cases nD
    have ld : Lp H7 D ((gls src ys).map fun g => (g, 0)) := ⟨ts, hD, pr⟩
    have ng : ∀ p ∈ (gls src ys).map (fun g => (g, (0 : Int))), Nm p.1 ∧ (p.2 = 0 ∨ p.2 = 1) := fun p hp => by
      obtain ⟨g, hg, rfl⟩ := List.mem_map.mp hp
      exact ⟨nm g (perm.mem_iff.mp (gls_mem hg)), .inl rfl⟩
    have lg : ((gls src ys).map fun g => (g, (0 : Int))).length ≤ 14 := by
      rw [List.length_map]
      have := gls_len src ys
      rw [perm.length_eq] at this
      omega
    generalize hps : (gls src ys).map (fun g => (g, (0 : Int))) = ps at ld ng lg
    clear hD pr tl
    -- kept
    refine ⟨_, rfl, L, _, rfl, .inl (SqL.of hL), fun kp nk => ?_⟩
    generalize hg : upd _ kp _ = H8
    obtain ⟨s8, gk⟩ := upd_new hg nk
    clear hg
    have nekr : kp ≠ r := R.ne nk
    have hL := s8 _ _ hL
    have R := R.same s8
    have b0 := b0.trans (But.of s8)
    have ld := ld.same s8
    -- given
    refine ⟨_, rfl, _, rfl, L, _, rfl, SqL.of hL, (by rw [List.length_map]; omega), fun tt o9 n9 s9 zt => ?_⟩
    generalize upd _ tt o9 = H9 at s9 zt ⊢
    have hL := s9 _ _ hL
    have gk := s9 _ _ gk
    have R := R.same s9
    have b0 := b0.trans (But.of s9)
    have ld := ld.same s9
    refine ⟨(by show 2 ≤ sizeLine; decide), fun l10 n10 => ?_⟩
    have ne10 : l10 ≠ r := R.ne n10
    generalize hg : upd _ l10 _ = H10
    obtain ⟨s10, g10⟩ := upd_new hg n10
    clear hg
    have hL := s10 _ _ hL
    have gk := s10 _ _ gk
    have R := R.same s10
    have b0 := b0.trans (But.of s10)
    have ld := ld.same s10
    have zt := zt.same s10
    refine ⟨_, rfl, r, 2, rfl, R, by decide, by decide, fun H11 gi b11 R11 i0 i1 => ?_⟩
    have hL := b11 _ _ neL hL
    have gk := b11 _ _ nekr gk
    have g10 := b11 _ _ ne10 g10
    have ld := ld.but neDr R b11
    have zt := zt.but R b11
    have b0 := b0.trans b11
    have R := R11
    clear R11 b11
    obtain ⟨ga, hga, at10⟩ : ∃ ga : Addr, (ga = L ∨ ga = tt) ∧ atI [V.ref L, V.ref tt] gi = some (.ref ga) := by
      rcases (show gi = 0 ∨ gi = 1 by omega) with rfl | rfl
      · exact ⟨L, .inl rfl, rfl⟩
      · exact ⟨tt, .inr rfl, rfl⟩
    refine ⟨l10, _, gi, .ref ga, rfl, rfl, SqL.of g10, at10, ?_⟩
    have sqg : ∀ {H' : Hp} {zs : List Str}, H' L = some (.lst (zs.map V.str)) → Tz H' tt (zs.map V.str) → SqL K H' ga (zs.map V.str) ∨ SqT K H' ga (zs.map V.str) := fun h1 h2 => by
      rcases hga with rfl | rfl
      · exact .inl (SqL.of h1)
      · exact .inr h2.sq
    clear at10 g10
    -- told
    refine ⟨_, rfl, _, rfl, _, rfl, r, 2, rfl, R, by decide, by decide, fun H12 bt b12 R12 t0 t1 => ?_⟩
    have hL := b12 _ _ neL hL
    have gk := b12 _ _ nekr gk
    have ld := ld.but neDr R b12
    have zt := zt.but R b12
    have b0 := b0.trans b12
    have R := R12
    clear R12 b12
    refine ⟨_, rfl, (by show 3 ≤ sizeLine; decide), fun l13 n13 => ?_⟩
    have ne13 : l13 ≠ r := R.ne n13
    generalize hg : upd _ l13 _ = H13
    obtain ⟨s13, g13⟩ := upd_new hg n13
    clear hg
    have hL := s13 _ _ hL
    have gk := s13 _ _ gk
    have R := R.same s13
    have b0 := b0.trans (But.of s13)
    have ld := ld.same s13
    have zt := zt.same s13
    refine ⟨r, _, rfl, R, .inr ⟨l13, _, rfl, ne13, g13, (by show 0 < 3; decide), (by show 3 ≤ 1000; decide), fun H14 u b14 R14 mu => ?_⟩⟩
    obtain ⟨hd, dh, sh⟩ : ∃ hd : PyData, (∀ H' : Hp, Dn K H' u hd) ∧ sml hd = true := by
      simp only [List.mem_cons, List.not_mem_nil, or_false] at mu
      rcases mu with rfl | rfl | rfl
      · exact ⟨.none, fun _ => .non, rfl⟩
      · exact ⟨.str "a", fun _ => .str _, by decide +kernel⟩
      · exact ⟨.str "zz", fun _ => .str _, by decide +kernel⟩
    have hL := b14 _ _ neL hL
    have gk := b14 _ _ nekr gk
    have ld := ld.but neDr R b14
    have zt := zt.but R b14
    have b0 := b0.trans b14
    have R := R14
    clear R14 b14 mu g13
    have shp := sh_prs (ps := ps) fun p hp => (ng p hp).1
    have shn := sh_ends nm
    have FP := tam.fits (gl2 (gd_prs ng lg) (gd_prs ng lg)).tm (Nat.le_trans (gl2 (gd_prs ng lg) (gd_prs ng lg)).dp (by decide))
    refine ⟨rfl, rfl, ?_⟩
    show spForw K C U [.ref ga, optV src, .int bt, .non, u, .str "reserved"] _ _ _
    refine use_free (sqg hL zt) (by omega) (dh _) sh fun ys1 H15 L1 q1 r1 s15 nL1 lp1 => ?_
    have ey := sort_uniq q1 r1 perm srt
    subst ey
    rw [hps] at lp1
    -- again
    refine ⟨_, rfl, _, rfl, rfl, rfl, ?_⟩
    show spForw K C U [.ref ga, optV src, .int 0, .non, .non, .str "reserved"] _ _ _
    refine use_free (sqg (s15 _ _ hL) (zt.same s15)) (by omega) .non rfl fun ys2 H16 L2 q2 r2 s16 nL2 lp2 => ?_
    have ey := sort_uniq q2 r2 q1 r1
    subst ey
    rw [hps] at lp2
    -- the same texts
    refine ⟨_, rfl, _, rfl, (by show 2 ≤ sizeLine; decide), fun l17 n17 => ?_⟩
    generalize hg : upd _ l17 _ = H17
    obtain ⟨s17, g17⟩ := upd_new hg n17
    clear hg
    refine ⟨_, .list [prsD ps, prsD ps], rfl, .lst g17 (.cons ((lp1.same s16).same s17).dn (.cons (lp2.same s17).dn .nil)), FP.1, FP.2.1, FP.2.2, ?_⟩
    refine ⟨_, rfl, _, rfl, (by show 2 ≤ sizeLine; decide), fun l18 n18 => ?_⟩
    generalize hg : upd _ l18 _ = H18
    obtain ⟨s18, g18⟩ := upd_new hg n18
    clear hg
    have s58 := s15.trans (s16.trans (s17.trans s18))
    refine ⟨_, .list [prsD ps, prsD ps], rfl, .lst g18 (.cons (ld.same s58).dn (.cons (ld.same s58).dn .nil)), FP.1, FP.2.1, FP.2.2, ?_⟩
    refine ⟨rfl, _, rfl, ?_⟩
    generalize PyData.shown (.list [prsD ps, prsD ps]) = sh0
    refine iteNS rfl ?_
    refine ⟨_, rfl, ga, _, rfl, sqg (s58 _ _ hL) (zt.same s58), fun l19 n19 => ?_⟩
    generalize hg : upd _ l19 _ = H19
    obtain ⟨s19, g19⟩ := upd_new hg n19
    clear hg
    have s59 := s58.trans s19
    refine ⟨_, rfl, _, _, (sq_dn g19).dp shn.1, (sq_dn (s59 _ _ gk)).dp shn.1, shn.2, shn.2, _, rfl, ?_⟩
    rw [SeqAt.eqv_refl _ shn.1]
    refine iteF ?_
    -- told.append(None)
    obtain ⟨ts1, hL1, pr1⟩ := lp1
    have hL1 := (s16.trans (s17.trans (s18.trans s19))) _ _ hL1
    have tl1 : ts1.length ≤ 20 := by
      rw [PrI.len pr1]
      omega
    refine ⟨_, rfl, .inl ⟨rfl, _, SqL.of hL1⟩, L1, _, _, rfl, rfl, hL1, (by rw [List.length_map]; exact small200 (by omega)), ?_⟩
    have sA : Same H14 (upd H19 L1 (.lst (ts1.map V.ref ++ [.non]))) := same_upd2 s59 nL1
    generalize upd H19 L1 _ = HA at sA ⊢
    have hL := sA _ _ hL
    have zt := zt.same sA
    have ld := ld.same sA
    have R := R.same sA
    have b0 := b0.trans (But.of sA)
    clear gk s59 s58 g19 g18 g17 lp2
    -- ends.reverse()
    refine ⟨_, rfl, .inl ⟨rfl, _, SqL.of hL⟩, L, _, rfl, rfl, hL, ?_⟩
    have hLB : (upd HA L (.lst (ns.map V.str).reverse)) L = some (.lst (ns.reverse.map V.str)) := by
      rw [upd_same, List.map_reverse]
    have ztB : Tz (upd HA L (.lst (ns.map V.str).reverse)) tt (ns.map V.str) := zt.updL hL
    have ldB : Lp (upd HA L (.lst (ns.map V.str).reverse)) D ps := ld.upd hL neD
    have RB : Rng (upd HA L (.lst (ns.map V.str).reverse)) r := R.upd2 neL
    have bB : But r H (upd HA L (.lst (ns.map V.str).reverse)) := fun b o nb e => by
      rw [upd_ne (fun z => by rw [z, nL0] at e; cases e)]
      exact b0 b o nb e
    generalize upd HA L (.lst (ns.map V.str).reverse) = HB at hLB ztB ldB RB bB ⊢
    clear hL zt ld R b0
    obtain ⟨zs, pz, sqz⟩ : ∃ zs : List Str, zs.Perm ns ∧ (SqL K HB ga (zs.map V.str) ∨ SqT K HB ga (zs.map V.str)) := by
      rcases hga with rfl | rfl
      · exact ⟨ns.reverse, List.reverse_perm _, .inl (SqL.of hLB)⟩
      · exact ⟨ns, List.Perm.refl _, .inr ztB.sq⟩
    refine ⟨_, rfl, _, rfl, rfl, rfl, ?_⟩
    show spForw K C U [.ref ga, optV src, .int 0, .non, .non, .str "turned"] _ _ _
    refine use_free sqz (by rw [pz.length_eq]; omega) .non rfl fun ys5 H20 L5 q5 r5 s20 nL5 lp5 => ?_
    have ey := sort_uniq (q5.trans pz) r5 q1 r1
    subst ey
    rw [hps] at lp5
    refine ⟨_, rfl, _, _, lp5.dn.dp shp.1, (ldB.same s20).dn.dp shp.1, shp.2, shp.2, _, rfl, ?_⟩
    rw [SeqAt.eqv_refl _ shp.1]
    refine iteF ?_
    -- the last
    have rl : ns.reverse.length ≤ 20 := by
      rw [List.length_reverse]
      omega
    refine ⟨_, rfl, rfl, rfl, ?_⟩
    show spForw K C U [.ref L, optV none, .int 0, .non, .non, .str "reserved"] _ _ _
    refine use_free (.inl (SqL.of (s20 _ _ hLB))) rl .non rfl fun ys6 H21 L6 q6 r6 s21 nL6 lp6 => ?_
    refine ⟨_, rfl, L, ns.reverse, rfl, SqL.of (s21 _ _ (s20 _ _ hLB)), by omega, fun ys4 p22 perm4 srt4 np22 => ?_⟩
    have ey := sort_uniq perm4 srt4 q6 r6
    subst ey
    generalize hg : upd _ p22 _ = H22
    obtain ⟨s22, hp22⟩ := upd_new hg np22
    clear hg
    have yl : ys4.length ≤ 20 := by
      rw [perm4.length_eq]
      exact rl
    refine ⟨p22, rfl, ⟨_, SqL.of hp22⟩, fun D4 nD => ?_⟩
    refine lc_it (walk_list (K := K) (a := p22) (xs := ys4.map V.str)) (fun i H' => Same H22 H' ∧ ∃ ts : List Addr, H' D4 = some (.lst (ts.map V.ref)) ∧ ts.length ≤ i ∧ PrI H' ts ((gls none (ys4.take i)).map fun g => (g, 0)))
      ⟨same_upd nD, [], upd_same, Nat.le_refl _, trivial⟩ (fun i H' _ h => SqL.of (h.1 _ _ hp22)) ?_ ?_
    · rintro k y HX HY hk ⟨s3, ts, hD, tl, pr⟩ ⟨rfl, hy⟩
      rw [List.getElem?_map] at hy
      obtain ⟨z, hz, rfl⟩ := Option.map_eq_some_iff.mp hy
      rw [List.length_map] at hk
      refine ⟨rfl, ?_⟩
      dsimp only [tYes]
      refine iteT ?_
      refine ⟨_, rfl, (by show 2 ≤ sizeLine; decide), fun t o nt st tz => ?_⟩
      refine ⟨_, st _ _ hD, ?_, same_upd2 (s3.trans st) nD, ts ++ [t], ?_, ?_, ?_⟩
      · rw [List.length_map]
        exact small200 (by omega)
      · rw [upd_same, List.map_append]
        rfl
      · rw [List.length_append]
        show ts.length + 1 ≤ k + 1
        omega
      · rw [gls_yes hz rfl, List.map_append]
        exact (pr.same st).snoc_upd (st _ _ hD) tz
    rintro H23 ⟨s23, ts, hD, tl, pr⟩
    rw [List.length_map, List.take_of_length_le (Nat.le_refl _)] at pr
    have sh6 := sh_prs (ps := (gls none ys4).map fun g => (g, 0)) fun p hp => by
      obtain ⟨g, hg, rfl⟩ := List.mem_map.mp hp
      exact nm g (List.mem_reverse.mp (perm4.mem_iff.mp (gls_mem hg)))
    have l4 : Lp H23 D4 ((gls none ys4).map fun g => (g, 0)) := ⟨ts, hD, pr⟩
    have sZ := s20.trans (s21.trans (s22.trans s23))
    refine ⟨_, _, (lp6.same (s22.trans s23)).dn.dp sh6.1, l4.dn.dp sh6.1, sh6.2, sh6.2, ?_⟩
    rw [SeqAt.eqv_refl _ sh6.1]
    exact q _ (bB.trans (But.of sZ)) (RB.same sZ)
end
end My

namespace My
open PySem PySem.Spec PyProof.Rows L2 Gy Xl Xs Xt
theorem cutd (xs : List Str) {n : Nat} (h : n ≤ xs.length) : cutV (xs.map V.str) (some (n : Int)) none = (xs.drop n).map V.str := by
  unfold cutV
  have e : HT.sIx (xs.map V.str).length 0 (some (n : Int)) = n := by
    rw [HT.sIx_nat, List.length_map]
    omega
  rw [e, HT.sIx_none, List.take_of_length_le (by rw [List.length_drop]; exact Nat.le_refl _), List.map_drop]
theorem early_sents {xs : List Str} {c j : Nat} {src : Option Str} {b : Int} (gs : List Str) : sents (fun g => fwd xs c j "reserved" src g b) gs = gs.map fun g => (g, 0) := by
  unfold sents
  induction gs with
  | nil => rfl
  | cons g gs ih =>
    rw [List.filterMap_cons_some (b := (g, 0)) (by rfl), ih]
    rfl
theorem at_lastL {xs : List Str} (h : 1 ≤ xs.length) : atI (xs.map V.str) (-1) = some (.str (fromEnd xs 1)) := by
  have l : (xs.map V.str).length = xs.length := List.length_map ..
  have e : ixN (xs.map V.str).length (-1) = some (xs.length - 1) := by
    unfold ixN
    rw [if_neg (by omega), if_pos (by omega), l]
    congr 1
    omega
  show (ixN (xs.map V.str).length (-1)).bind (fun j => (xs.map V.str)[j]?) = _
  rw [e]
  show (xs.map V.str)[xs.length - 1]? = _
  unfold fromEnd
  rw [List.getD_eq_getElem?_getD, List.getElem?_map, List.getElem?_eq_getElem (by omega)]
  rfl
theorem prI_snoc {H : Hp} {t : Addr} {p : Str × Int} (tz : Tz H t [.str p.1, .int p.2]) : ∀ {ts : List Addr} {ps : List (Str × Int)}, PrI H ts ps → PrI H (ts ++ [t]) (ps ++ [p])
  | [], [], _ => ⟨tz, trivial⟩
  | _ :: _, _ :: _, h => ⟨h.1, prI_snoc tz h.2⟩
section
variable {P : Program} {w : World} {K : PySem.W.Frag} {mg : Str → Option Value} {base : Heap} {H : Hp}
theorem ok_relr {f C U : Addr} {fd : FuncData} (F : Fun K "_law_relink_right" "_law_relink_right" s_law_relink_right f fd) (Y : Bn mg) (G_law_draw : Fk P w K mg base CX0 1 "_law_draw" ["_law_pot_here", "_law_many"] spDraw) (G_law_pick : Fk P w K mg base CX0 2 "_law_pick" ["_law_pot_here", "_law_some"] (spPick K))
    (G_law_names : Fk P w K mg base CX0 3 "_law_names" ["_law_pot_here", "_law_many"] spNames) (G_forward_bit : Fk P w K mg base (L2.CX P w) 7 "forward_bit" ["relink", "host", "phase", "source", "goal", "bit"] (spFwd K C U))
    (GP_f : Fw P w K mg base (L2.CX P w) 8 "forwards" FWP 1 ["source", "bit", "relink", "host", "phase"] (fun vs zs => vs ++ zs) (spForw K C U)) (GE_f : Fw P w K mg base (L2.CX P w) 8 "forwards" FWP 1 ["source", "bit", "relink", "host"] (fun vs zs => gE vs [.str "reserved"] zs) (spForw K C U)) :
    FnG P w K mg base CX0 9 f fd ["_law_pot_here"] spPart := by
  refine fun_g0 F sc_law_relink_right (fun {vs H Q E} h => ?_) (fun cdv A outer s H vs Q E gd hr h => ?_)
  · obtain ⟨r, rfl, _⟩ := h
    rfl
  · obtain ⟨r, rfl, R, q⟩ := h
    have hu70 := Room.units70 hr
    have hu64 := hr.units
    refine ⟨_, (pss_cons (ps_set (i := 1) sc_law_relink_right.nd rfl (.inl rfl) (pe_callF G_law_names (hr.mono (by decide)) (by rfl) pass0 (pa_cons (pv 0) (pa_cons (pe_op op_add pe_int (pe_callF G_law_draw (hr.mono (by decide)) (by rfl) pass0 (pa_cons (pv 0) (pa_cons pe_int pa_nil)))) pa_nil))))
 (pss_cons (ps_par (i := 2) (j := 3) (by rfl) sc_law_relink_right.nd rfl rfl (by decide) rfl rfl (pa_cons (pe_callTy call_tupOf (by rfl) Y.tuple (by decide +kernel) (pa_cons (pe_slice sl_list (pv 1) (po_some pe_int) po_none) pa_nil)) (pa_cons (pe_slice sl_list (pv 1) po_none (po_some pe_int)) pa_nil)) (by rfl))
 (pss_cons (ps_par (i := 4) (j := 5) (by rfl) sc_law_relink_right.nd rfl rfl (by decide) rfl rfl (pa_cons (pe_tupZ (pa_cons (pv 2) (pa_cons (pe_callF G_law_draw (hr.mono (by decide)) (by rfl) pass0 (pa_cons (pv 0) (pa_cons (pe_op op_sub (pe_callB call_len_seq (by rfl) Y.len PySem.boot_len (pa_cons (pv 2) pa_nil)) pe_int) pa_nil))) pa_nil))) (pa_cons (pe_callF G_law_draw (hr.mono (by decide)) (by rfl) pass0 (pa_cons (pv 0) (pa_cons (pe_callB call_len_seq (by rfl) Y.len PySem.boot_len (pa_cons (pv 2) pa_nil)) pa_nil))) pa_nil)) (by rfl))
 (pss_cons (ps_set (i := 6) sc_law_relink_right.nd rfl (.inl rfl) (pe_op op_cat (pe_slice sl_list (pv 3) (po_some (pe_callF G_law_draw (hr.mono (by decide)) (by rfl) pass0 (pa_cons (pv 0) (pa_cons pe_int pa_nil)))) po_none) (pe_callTy call_list_of (by rfl) Y.list (by decide +kernel) (pa_cons (pe_slice sl_cutA (pv 2) (po_some (pe_callB (call_max2 rfl) (by rfl) Y.max (by decide +kernel) (pa_cons pe_int (pa_cons (pe_op op_sub (pv 5) pe_int) pa_nil)))) (po_some (pv 5))) pa_nil))))
 (pss_cons (ps_set (i := 6) sc_law_relink_right.nd rfl (.inl rfl) (pe_op op_cat (pv 6) (pe_callTy call_list_of (by rfl) Y.list (by decide +kernel) (pa_cons (pe_slice sl_cutA (pv 2) (po_some (pe_op op_add (pv 5) pe_int)) (po_some (pe_op op_add (pv 5) pe_int))) pa_nil))))
 (pss_cons (ps_if (PW.pt (pw_and (pt_cmpR op_in_seq (pv 5) (pe_tupZ (pa_cons pe_int (pa_cons (pe_op op_sub (pe_callB call_len_seq (by rfl) Y.len PySem.boot_len (pa_cons (pv 2) pa_nil)) pe_int) pa_nil))) rfl) (pw_and1 (pt_cmpR op_eq (pe_callF G_law_draw (hr.mono (by decide)) (by rfl) pass0 (pa_cons (pv 0) (pa_cons pe_int pa_nil))) pe_int (nomark _)))))
 (pss_one (ps_expr (pe_bm PySem.F.plainAttrs_list PySem.F.slot_list_append PySem.F.type_list_append mt_append (pv 6) (pa_cons (pe_ifExp (pt_cmpR op_eq (pv 5) pe_int (nomark _)) (pe_ix ix_tup (pv 2) (pe_un un_neg pe_int) (fun _ _ => rfl)) (pe_ix ix_tup (pv 2) pe_int (fun _ _ => rfl))) pa_nil))))
 pss_nil)
 (pss_cons (ps_par (i := 7) (j := 8) (by rfl) sc_law_relink_right.nd rfl rfl (by decide) rfl rfl (pa_cons (pe_ix ix_tup (pv 2) (pv 5) (fun _ _ => rfl)) (pa_cons (pe_callF G_law_pick (hr.mono (by decide)) (by rfl) pass0 (pa_cons (pv 0) (pa_cons (pe_lst (pa_cons pe_str (pa_cons pe_str pa_nil))) pa_nil))) pa_nil)) (by rfl))
 (pss_cons (ps_set (i := 9) sc_law_relink_right.nd rfl (.inr rfl) (pe_callF G_law_pick (hr.mono (by decide)) (by rfl) pass0 (pa_cons (pv 0) (pa_cons (pe_op op_cat (pe_lst (pa_cons pe_non pa_nil)) (pv 6)) pa_nil))))
 (pss_cons (ps_set (i := 10) sc_law_relink_right.nd rfl (.inl rfl) (pe_ifExp (pt_cmpR op_isN (pv 9) pe_non (nomark _)) pe_int (pe_callF G_law_draw (hr.mono (by decide)) (by rfl) pass0 (pa_cons (pv 0) (pa_cons pe_int pa_nil)))))
 (pss_cons (ps_set (i := 11) sc_law_relink_right.nd rfl (.inl rfl) (pe_lst pa_nil))
 (pss_cons (ps_for PassesOwn.never rfl (pi_list (pe_callB cr_sortedS (by rfl) Y.sorted (by decide +kernel) (pa_cons (pv 6) pa_nil))) (pg_name (i := 12) sc_law_relink_right.nd rfl (Or.inl rfl))
 (pss_one (ps_if (pt_cmpR op_ne (pv 12) (pv 9) (nomark _))
 (pss_cons (ps_set (i := 13) sc_law_relink_right.nd rfl (.inl rfl) (pe_callF G_forward_bit (hr.mono (by decide)) (by rfl) passN (pa_cons (pv 4) (pa_cons (pv 7) (pa_cons (pv 8) (pa_cons (pv 9) (pa_cons (pv 12) (pa_cons (pv 10) pa_nil))))))))
 (pss_one (ps_set (i := 11) sc_law_relink_right.nd rfl (.inl rfl) (pe_op op_cat (pv 11) (pe_op op_rep (pe_lst (pa_cons (pe_tupZ (pa_cons (pv 12) (pa_cons (pv 13) pa_nil))) pa_nil)) (pe_callTy call_int1 (by rfl) Y.int (by decide +kernel) (pa_cons (pe_cmpR (show OpR _ _ rNotN from op_notN) (pv 13) pe_non (nomark _)) pa_nil)))))))
 pss_nil)))
 (pss_cons (ps_expr (pe_bm0 PySem.F.plainAttrs_list PySem.F.slot_list_reverse PySem.F.type_list_reverse mt_reverse (pv 6)))
 (pss_cons (ps_set (i := 14) sc_law_relink_right.nd rfl (.inl rfl) (pe_callTy call_list_of (by rfl) Y.list (by decide +kernel) (pa_cons (pv 6) pa_nil)))
 (pss_cons (ps_set (i := 15) sc_law_relink_right.nd rfl (.inl rfl) (pe_callNF GP_f (hr.mono (by decide)) (by rfl) passN (pa_cons (pv 6) pa_nil) (pk_cons (pv 9) (pk_cons (pv 10) (pk_cons (pv 4) (pk_cons (pv 7) (pk_cons (pv 8) pk_nil)))))))
 (pss_cons (ps_if (PW.pt (pw_or (pt_cmpR op_ne (pe_callB (repr_dn gd hu70) (by rfl) Y.repr (by decide +kernel) (pa_cons (pv 15) pa_nil)) (pe_callB (repr_dn gd hu70) (by rfl) Y.repr (by decide +kernel) (pa_cons (pv 11) pa_nil)) (nomark _)) (pw_or1 (pt_cmpR (op_neD hu64) (pv 6) (pv 14) (nomark _)))))
 (pss_one (ps_ret pe_bl))
 pss_nil)
 (pss_cons (ps_set (i := 16) sc_law_relink_right.nd rfl (.inl rfl) (pe_callNF GE_f (hr.mono (by decide)) (by rfl) passN (pa_cons (pv 6) pa_nil) (pk_cons (pv 9) (pk_cons (pv 10) (pk_cons (pv 4) (pk_cons (pv 7) pk_nil))))))
 (pss_cons (ps_setLc (i := 17) (own := [("_law_aim", 12)]) (g := gName 12) (tt := tTest (tOp rNe (tVar 12) (tVar 9))) rfl sc_law_relink_right.nd rfl rfl (sw_true rfl rfl rfl (by decide +kernel)) (pi_list (pe_callB cr_sortedS (by rfl) Y.sorted (by decide +kernel) (pa_cons (pv 6) pa_nil))) (blkOk_by (N := ["_law_pot_here", "_law_names_here", "_law_path", "_law_beside", "_law_ring", "_law_index", "_law_ends", "_law_who", "_law_stage", "_law_origin", "_law_mark", "_law_due", "_law_aim", "_law_sent", "_law_kept", "_law_told", "_law_early", "_law_plain"]) (sc := defScope s_law_relink_right) (by decide +kernel)) (fun _ _ _ _ _ => (pg_name (i := 12) sc_law_relink_right.nd rfl (Or.inl rfl))) (fun _ _ _ _ _ => (pts_one (pt_cmpR op_ne (pv 12) (pv 9) (nomark _)))) (fun _ _ _ _ _ => (pe_tupZ (pa_cons (pv 12) (pa_cons pe_int pa_nil)))))
 (pss_one (ps_ret (pe_cmpR op_eq (pe_callB (repr_dn gd hu70) (by rfl) Y.repr (by decide +kernel) (pa_cons (pv 16) pa_nil)) (pe_callB (repr_dn gd hu70) (by rfl) Y.repr (by decide +kernel) (pa_cons (pv 17) pa_nil)) (nomark _))))))))))))))))))))), ?_⟩
    -- names
    refine ⟨_, rfl, _, rfl, r, 5, rfl, R, by decide, by decide, fun H1 d b0 R d0 d1 => ?_⟩
    obtain ⟨dn, rfl⟩ := Int.eq_ofNat_of_zero_le d0
    refine ⟨_, _, rfl, rfl, ?_⟩
    refine ⟨r, 6 + dn, (by show [V.ref r, V.int (6 + (dn : Int))] = _; rw [show (6 : Int) + (dn : Int) = ((6 + dn : Nat) : Int) by omega]), R, by omega, fun H2 L ns b1 R2 nL hL el nm nd => ?_⟩
    have neL : L ≠ r := R.ne nL
    have b0 := b0.trans b1
    have R := R2
    clear b1 nL R2
    -- path, beside
    refine ⟨_, rfl, _, rfl, L, _, rfl, SqL.of hL, fun p3 n3 => ?_⟩
    rw [show (some (3 : Int)) = some ((3 : Nat) : Int) from rfl, cutd ns (by omega)]
    generalize hg : upd _ p3 _ = H3
    obtain ⟨s3, g3⟩ := upd_new hg n3
    clear hg
    refine ⟨p3, _, rfl, SqL.of g3, (by rw [List.length_map, List.length_drop]; omega), fun pa o4 n4 s4 pz => ?_⟩
    generalize upd _ pa o4 = H4 at s4 pz ⊢
    have hL := s4 _ _ (s3 _ _ hL)
    have R := (R.same s3).same s4
    have b0 := b0.trans (But.of (s3.trans s4))
    clear g3
    refine ⟨_, rfl, _, rfl, L, _, rfl, SqL.of hL, fun bs n5 => ?_⟩
    rw [show (some (3 : Int)) = some ((3 : Nat) : Int) from rfl, cutn ns (by omega)]
    have nebs : bs ≠ r := R.ne n5
    generalize hg : upd _ bs _ = H5
    obtain ⟨s5, gbs⟩ := upd_new hg n5
    clear hg
    have R := R.same s5
    have pz := pz.same s5
    have b0 := b0.trans (But.of s5)
    refine ⟨_, _, rfl, ?_⟩
    obtain ⟨xs, hxs⟩ : ∃ xs, xs = ns.drop 3 := ⟨_, rfl⟩
    obtain ⟨be, hbe⟩ : ∃ be, be = ns.take 3 := ⟨_, rfl⟩
    rw [← hxs] at pz
    rw [← hbe] at gbs
    have xl : xs.length = 3 + dn := by rw [hxs, List.length_drop]; omega
    have bl3 : be.length = 3 := by rw [hbe, List.length_take]; omega
    have xn : ∀ x ∈ xs, Nm x := fun x hx => nm x (List.mem_of_mem_drop (by rw [← hxs]; exact hx))
    have bn : ∀ x ∈ be, Nm x := fun x hx => nm x (List.mem_of_mem_take (by rw [← hbe]; exact hx))
    have xd : xs.Nodup := by rw [hxs]; exact nd.sublist (List.drop_sublist _ _)
    clear hxs hbe nd nm hL
    -- ring, index
    refine ⟨_, rfl, _, rfl, _, rfl, pa, _, rfl, .inr pz.sq, _, _, rfl, rfl, ?_⟩
    rw [List.length_map, xl]
    refine ⟨r, _, rfl, R, by omega, by omega, fun H6 c b6 R6 c0 c1 => ?_⟩
    obtain ⟨c, rfl⟩ := Int.eq_ofNat_of_zero_le c0
    have pz := pz.but R b6
    have gbs := b6 _ _ nebs gbs
    have b0 := b0.trans b6
    have R := R6
    refine ⟨(by show 2 ≤ sizeLine; decide), fun ra o7 n7 s7 rz => ?_⟩
    generalize upd _ ra o7 = H7 at s7 rz ⊢
    have dr : Dr H7 ra pa xs c := ⟨rz, pz.same s7, by omega, by omega, xn, xd⟩
    have gbs := s7 _ _ gbs
    have b0 := b0.trans (But.of s7)
    have R := R.same s7
    clear pz rz b6 R6 c0
    refine ⟨_, rfl, _, rfl, pa, _, rfl, .inr dr.pa.sq, ?_⟩
    rw [List.length_map, xl]
    refine ⟨r, _, rfl, R, by omega, by omega, fun H8 j b8 R8 j0 j1 => ?_⟩
    obtain ⟨j, rfl⟩ := Int.eq_ofNat_of_zero_le j0
    have jl : j < xs.length := by omega
    have dr := dr.but R b8
    have gbs := b8 _ _ nebs gbs
    have b0 := b0.trans b8
    have R := R8
    clear b8 R8 j0
    refine ⟨_, _, rfl, ?_⟩
    -- ends
    refine ⟨_, rfl, _, rfl, r, 3, rfl, R, by decide, by decide, fun H9 m b9 R9 m0 m1 => ?_⟩
    obtain ⟨m, rfl⟩ := Int.eq_ofNat_of_zero_le m0
    have dr := dr.but R b9
    have gbs := b9 _ _ nebs gbs
    have b0 := b0.trans b9
    have R := R9
    clear b9 R9 m0
    refine ⟨_, rfl, bs, _, rfl, SqL.of gbs, fun la na => ?_⟩
    rw [cutd be (by omega)]
    generalize hg : upd _ la _ = H10
    obtain ⟨s10, ga⟩ := upd_new hg na
    clear hg
    have dr := dr.same s10
    have R := R.same s10
    have b0 := b0.trans (But.of s10)
    clear gbs
    refine ⟨_, rfl, _, rfl, _, _, rfl, rfl, _, _, rfl, _, rfl, _, rfl, _, rfl, pa, _, rfl, dr.pa, ?_⟩
    rw [show (if (j : Int) - 1 > 0 then (j : Int) - 1 else 0) = ((j - 1 : Nat) : Int) by split <;> omega, cut_one xs (j - 1) j (by omega)]
    have o1 : (one xs (j - 1) j).length ≤ 1 := by
      unfold one
      rw [List.length_take]
      omega
    refine ⟨fun z => ?_, fun t11 o11 n11 s11 z11 => ?_⟩
    · have z := congrArg List.length z
      rw [List.length_map, List.length_map] at z
      omega
    generalize upd _ t11 o11 = H11 at s11 z11 ⊢
    refine ⟨t11, _, rfl, .inr z11.sq, fun l12 n12 => ?_⟩
    generalize hg : upd _ l12 _ = H12
    obtain ⟨s12, g12⟩ := upd_new hg n12
    clear hg
    refine ⟨la, l12, _, _, rfl, rfl, s12 _ _ (s11 _ _ ga), g12, (by rw [List.length_map, List.length_map, List.length_drop]; exact Nat.le_trans (show _ ≤ 20 by omega) (by decide)), fun l13 n13 => ?_⟩
    generalize hg : upd _ l13 _ = H13
    obtain ⟨s13, g13⟩ := upd_new hg n13
    clear hg
    have sX := s11.trans (s12.trans s13)
    have dr := dr.same sX
    have R := R.same sX
    have b0 := b0.trans (But.of sX)
    clear ga g12 z11
    rw [← List.map_append] at g13
    -- more ends
    refine ⟨_, rfl, _, rfl, _, rfl, _, _, rfl, rfl, _, rfl, _, rfl, _, _, rfl, rfl, _, rfl, pa, _, rfl, dr.pa, ?_⟩
    rw [show (j : Int) + 1 = ((j + 1 : Nat) : Int) by omega, show (j : Int) + 2 = ((j + 2 : Nat) : Int) by omega, cut_one xs (j + 1) (j + 2) (by omega)]
    have o2 : (one xs (j + 1) (j + 2)).length ≤ 1 := one_len xs (j + 1)
    refine ⟨fun z => ?_, fun t14 o14 n14 s14 z14 => ?_⟩
    · have z := congrArg List.length z
      rw [List.length_map, List.length_map] at z
      omega
    generalize upd _ t14 o14 = H14 at s14 z14 ⊢
    refine ⟨t14, _, rfl, .inr z14.sq, fun l15 n15 => ?_⟩
    generalize hg : upd _ l15 _ = H15
    obtain ⟨s15, g15⟩ := upd_new hg n15
    clear hg
    refine ⟨l13, l15, _, _, rfl, rfl, s15 _ _ (s14 _ _ g13), g15, (by rw [List.length_map, List.length_map, List.length_append, List.length_drop]; exact Nat.le_trans (show _ ≤ 20 by omega) (by decide)), fun le nle => ?_⟩
    have sY := s14.trans s15
    have nle0 : H le = none := by
      cases w : H le with
      | none => rfl
      | some o =>
        by_cases wr : le = r
        · obtain ⟨x, y, e, _⟩ := (R.same sY)
          rw [wr, e] at nle
          cases nle
        · rw [(b0.trans (But.of sY)) _ _ wr w] at nle
          cases nle
    have ner : le ≠ r := (R.same sY).ne nle
    generalize hg : upd _ le _ = H16
    obtain ⟨s16, hle⟩ := upd_new hg nle
    clear hg
    have sZ := sY.trans s16
    have dr := dr.same sZ
    have R := R.same sZ
    have b0 := b0.trans (But.of sZ)
    rw [← List.map_append] at hle
    have en : ∀ x ∈ be.drop m ++ one xs (j - 1) j ++ one xs (j + 1) (j + 2), Nm x := fun x hx => by
      rcases List.mem_append.mp hx with hx | hx
      · rcases List.mem_append.mp hx with hx | hx
        · exact bn x (List.mem_of_mem_drop hx)
        · exact xn x (one_sub hx)
      · exact xn x (one_sub hx)
    have e5 : (be.drop m ++ one xs (j - 1) j ++ one xs (j + 1) (j + 2)).length ≤ 5 := by
      rw [List.length_append, List.length_append, List.length_drop]
      omega
    generalize be.drop m ++ one xs (j - 1) j ++ one xs (j + 1) (j + 2) = es0 at hle en e5
    clear g13 g15 z14 bn
    -- perhaps one more
    refine ⟨_, rfl, _, rfl, pa, _, rfl, .inr dr.pa.sq, _, _, rfl, rfl, (by show 2 ≤ sizeLine; decide), fun t17 o17 n17 s17 z17 => ?_⟩
    generalize upd _ t17 o17 = H17 at s17 z17 ⊢
    have hle := s17 _ _ hle
    have dr := dr.same s17
    have R := R.same s17
    have b0 := b0.trans (But.of s17)
    refine ⟨t17, _, rfl, .inr z17.sq, rfl, rfl, _, rfl, ite2 (fun c1 => ?_) (fun c1 => ?_)⟩
    · refine ⟨_, rfl, r, 2, rfl, R, by decide, by decide, fun H18 i2 b18 R18 i0 i1 => ?_⟩
      have hle := b18 _ _ ner hle
      have dr := dr.but R b18
      have b0 := b0.trans b18
      have R := R18
      clear R18 b18
      refine ⟨rfl, _, rfl, ite2 (fun c2 => ?_) (fun c2 => ?_)⟩
      · refine ⟨_, rfl, .inl ⟨rfl, _, SqL.of hle⟩, _, rfl, rfl, _, rfl, ite2 (fun c3 => ?_) (fun c3 => ?_)⟩
        · refine ⟨_, rfl, _, rfl, pa, _, _, .str (fromEnd xs 1), rfl, rfl, dr.pa.sq, at_lastL (by omega), le, _, _, rfl, rfl, hle, (by rw [List.length_map]; exact small200 (by omega)), ?_⟩
          have xm : Nm (fromEnd xs 1) := xn _ (getD_mem (by omega))
          obtain ⟨es, e6, en, hes⟩ : ∃ es : List Str, es.length ≤ 6 ∧ (∀ x ∈ es, Nm x) ∧ es0.map V.str ++ [V.str (fromEnd xs 1)] = es.map V.str := ⟨es0 ++ [_], (by rw [List.length_append]; show _ + 1 ≤ 6; omega), (fun x hx => by
            rcases List.mem_append.mp hx with hx | hx
            · exact en x hx
            · rw [List.mem_singleton.mp hx]
              exact xm), (by rw [List.map_append]; rfl)⟩
          rw [hes]
          have hle' : (upd H18 le (.lst (es.map V.str))) le = some (.lst (es.map V.str)) := upd_same
          have dr' : Dr (upd H18 le (.lst (es.map V.str))) ra pa xs c := ⟨dr.ra.updL hle, dr.pa.updL hle, dr.l3, dr.cl, dr.nm, dr.nd⟩
          have R' : Rng (upd H18 le (.lst (es.map V.str))) r := R.upd2 ner
          have b0' : But r H (upd H18 le (.lst (es.map V.str))) := fun b' o nb e => by
            rw [upd_ne (fun w => by rw [w, nle0] at e; cases e)]
            exact b0 b' o nb e
          generalize upd H18 le (.lst (es.map V.str)) = HC at hle' dr' R' b0' ⊢
          have hle := hle'
          have dr := dr'
          have R := R'
          have b0 := b0'
          clear hle' dr' R' b0' hes
          -- who, stage
          refine ⟨_, rfl, _, rfl, pa, _, _, .str (xs.getD j ""), rfl, rfl, dr.pa.sq, at_nat (i := j) jl, ?_⟩
          refine ⟨_, rfl, (by show 2 ≤ sizeLine; decide), fun lw nw => ?_⟩
          have new := R.ne nw
          generalize hg : upd _ lw _ = HE1
          obtain ⟨sw, gw⟩ := upd_new hg nw
          clear hg
          refine ⟨r, _, rfl, R.same sw, .inr ⟨lw, _, rfl, new, gw, (by show 0 < 2; decide), (by show 2 ≤ 1000; decide), fun HE u bE RE mu => ?_⟩⟩
          obtain ⟨ph, rfl⟩ : ∃ ph : Str, u = .str ph := by
            simp only [List.mem_cons, List.not_mem_nil, or_false] at mu
            rcases mu with rfl | rfl
            · exact ⟨_, rfl⟩
            · exact ⟨_, rfl⟩
          have hle := bE _ _ ner (sw _ _ hle)
          have dr := (dr.same sw).but (R.same sw) bE
          have b0 := b0.trans ((But.of sw).trans bE)
          have R := RE
          refine ⟨_, _, rfl, ?_⟩
          clear mu gw RE bE sw
          -- origin
          refine ⟨_, rfl, (by show 1 ≤ sizeLine; decide), fun lo no => ?_⟩
          generalize hg : upd _ lo _ = HF1
          obtain ⟨so, go⟩ := upd_new hg no
          clear hg
          refine ⟨_, rfl, lo, le, _, _, rfl, rfl, go, so _ _ hle, (by rw [List.length_map]; exact Nat.le_trans (show 1 + es.length ≤ 20 by omega) (by decide)), fun lp np => ?_⟩
          have nep := (R.same so).ne np
          generalize hg : upd _ lp _ = HF2
          obtain ⟨sp, gp⟩ := upd_new hg np
          clear hg
          have sop := so.trans sp
          refine ⟨r, _, rfl, R.same sop, .inr ⟨lp, _, rfl, nep, gp, (by rw [List.length_append]; show 0 < 1 + _; omega), (by rw [List.length_append, List.length_map]; show 1 + _ ≤ 1000; omega), fun HF u bF RF mu => ?_⟩⟩
          obtain ⟨src, rfl⟩ : ∃ src : Option Str, u = optV src := by
            rcases List.mem_append.mp mu with mu | mu
            · rw [List.mem_singleton.mp mu]
              exact ⟨none, rfl⟩
            · obtain ⟨x, _, rfl⟩ := List.mem_map.mp mu
              exact ⟨some x, rfl⟩
          have hle := bF _ _ ner (sop _ _ hle)
          have dr := (dr.same sop).but (R.same sop) bF
          have b0 := b0.trans ((But.of sop).trans bF)
          have R := RF
          clear mu gp go RF bF so sp sop
          -- mark
          cases src with
          | none =>
            refine ⟨_, rfl, rfl, _, rfl, iteT ?_⟩
            obtain ⟨src, esrc⟩ : ∃ src : Option Str, src = none := ⟨_, rfl⟩
            rw [← esrc]
            have hb : (0 : Int) = 0 ∨ (0 : Int) = 1 := .inl rfl
            clear esrc
            -- due
            obtain ⟨fw, hfw⟩ : ∃ fw : Str → V, fw = fun g => fwd xs c j ph src g 0 := ⟨_, rfl⟩
            have fwv : ∀ g, fw g = .non ∨ fw g = .int 0 ∨ fw g = .int 1 := fun g => by rw [hfw]; exact fwd_val hb
            refine ⟨(by show 0 ≤ sizeLine; decide), fun d0 nd0 => ?_⟩
            generalize hg : upd _ d0 _ = H1
            obtain ⟨s1, g0⟩ := upd_new hg nd0
            clear hg
            have hle1 := s1 _ _ hle
            refine ⟨_, rfl, le, es, rfl, SqL.of hle1, by omega, fun ys p perm srt np => ?_⟩
            generalize hg : upd _ p _ = H2
            obtain ⟨s2, hp⟩ := upd_new hg np
            clear hg
            have s12 := s1.trans s2
            have yl : ys.length ≤ 20 := by
              rw [perm.length_eq]
              omega
            refine ⟨p, rfl, ⟨_, SqL.of hp⟩, ?_⟩
            refine for_it (walk_list (K := K) (a := p) (xs := ys.map V.str)) (fun i σ H' => (∃ dd a12 a13, σ = [some (.ref r), some (.ref L), some (.ref pa), some (.ref bs), some (.ref ra), some (.int (j : Int)), some (.ref le), some (.str (xs.getD j "")), some (.str ph), some (optV src), some (.int 0), some (.ref dd), a12, a13, none, none, none, none] ∧ Same H2 H' ∧ HF dd = none ∧ Lp H' dd (sents fw (gls src (ys.take i)))))
              ⟨_, _, _, rfl, Same.refl _, nd0, [], s2 _ _ g0, trivial⟩ (fun _ _ _ _ h => by obtain ⟨_, _, _, _, h2, _⟩ := h; exact SqL.of (h2 _ _ hp)) ?_ ?_
            · rintro k y σ H3 H4 hk ⟨dd, a12, a13, rfl, s3, ndd, ld⟩ ⟨rfl, hy⟩
              rw [List.getElem?_map] at hy
              obtain ⟨z, hz, rfl⟩ := Option.map_eq_some_iff.mp hy
              have s03 := s12.trans s3
              refine ⟨_, rfl, _, rfl, scal_opt z src, _, rfl, ite2 (fun c8 => ?_) (fun c8 => ?_)⟩
              · refine ⟨_, rfl, _, rfl, _, rfl, _, rfl, _, rfl, _, rfl, ?_⟩
                dsimp only [tNil]
                refine use_fwd (j := j) (ph := ph) (src := src) (g := z) (b := 0) (dr.same s03) (by omega) jl fun H5 s5 => ?_
                have ef : fwd xs c j ph src z 0 = fw z := by rw [hfw]
                rw [ef]
                refine ⟨_, rfl, _, rfl, _, rfl, (by show 2 ≤ sizeLine; decide), fun t o nt st tz => ?_⟩
                generalize upd _ t o = H6 at st tz ⊢
                refine ⟨(by show 1 ≤ sizeLine; decide), fun l6 n6 => ?_⟩
                generalize hg : upd _ l6 _ = H7
                obtain ⟨s7, g7⟩ := upd_new hg n6
                clear hg
                obtain ⟨ts, hdd, pr⟩ := ld
                have hdd := s7 _ _ (st _ _ (s5 _ _ hdd))
                have pr := ((pr.same s5).same st).same s7
                have tz := tz.same s7
                have tl : ts.length ≤ 20 := by
                  rw [PrI.len pr]
                  have a1 := List.length_filterMap_le (sentTo fw) (gls src (ys.take k))
                  have a2 := gls_len src (ys.take k)
                  rw [List.length_take] at a2
                  unfold sents
                  omega
                refine ⟨_, rfl, rfl, .inr ⟨_, rfl, l6, _, _, rfl, rfl, g7, ?_, ?_, ?_, fun l8 n8 => ?_⟩⟩
                · split <;> decide
                · split <;> decide
                · split <;> first
                    | exact (show 1 * 1 ≤ sizeLine by decide)
                    | exact (show 1 * 0 ≤ sizeLine by decide)
                generalize hg : upd _ l8 _ = H8
                obtain ⟨s8, g8⟩ := upd_new hg n8
                clear hg
                refine ⟨dd, l8, _, _, rfl, rfl, s8 _ _ hdd, g8, ?_, fun l9 n9 => ?_⟩
                · rw [List.length_map]
                  refine Nat.le_trans (m := 40) ?_ (by decide)
                  have : ((List.replicate (if (!decide (fw z = V.non)) = true then (1 : Int) else 0).toNat [V.ref t]).flatten).length ≤ 1 := by
                    split <;> first
                      | exact (show 0 ≤ 1 by decide)
                      | exact (show 1 ≤ 1 by decide)
                  omega
                have nl9 : HF l9 = none := by
                  cases w : HF l9 with
                  | none => rfl
                  | some o =>
                    rw [(s03.trans (s5.trans (st.trans (s7.trans s8)))) _ _ w] at n9
                    cases n9
                generalize hg : upd _ l9 _ = H9
                obtain ⟨s9, g9⟩ := upd_new hg n9
                clear hg
                have s39 := s5.trans (st.trans (s7.trans (s8.trans s9)))
                have pr := (pr.same s8).same s9
                have tz := (tz.same s8).same s9
                refine ⟨l9, _, _, rfl, s3.trans s39, nl9, ?_⟩
                rw [gls_yes hz c8]
                rcases fwv z with w | w | w
                · rw [w] at g9
                  refine ⟨ts, ?_, ?_⟩
                  · rw [g9]
                    show some (HO.lst (ts.map V.ref ++ [])) = _
                    rw [List.append_nil]
                  · have e : sents fw (gls src (ys.take k) ++ [z]) = sents fw (gls src (ys.take k)) := by
                      unfold sents
                      rw [List.filterMap_append]
                      show _ ++ List.filterMap (sentTo fw) [z] = _
                      rw [List.filterMap_cons_none (by unfold sentTo; rw [w]), List.filterMap_nil, List.append_nil]
                    rw [e]
                    exact pr
                · rw [w] at g9 tz
                  refine ⟨ts ++ [t], ?_, ?_⟩
                  · rw [g9, List.map_append]
                    rfl
                  · have e : sents fw (gls src (ys.take k) ++ [z]) = sents fw (gls src (ys.take k)) ++ [(z, 0)] := by
                      unfold sents
                      rw [List.filterMap_append]
                      show _ ++ List.filterMap (sentTo fw) [z] = _
                      rw [List.filterMap_cons_some (b := (z, 0)) (by unfold sentTo; rw [w]), List.filterMap_nil]
                    rw [e]
                    exact prI_snoc tz pr
                · rw [w] at g9 tz
                  refine ⟨ts ++ [t], ?_, ?_⟩
                  · rw [g9, List.map_append]
                    rfl
                  · have e : sents fw (gls src (ys.take k) ++ [z]) = sents fw (gls src (ys.take k)) ++ [(z, 1)] := by
                      unfold sents
                      rw [List.filterMap_append]
                      show _ ++ List.filterMap (sentTo fw) [z] = _
                      rw [List.filterMap_cons_some (b := (z, 1)) (by unfold sentTo; rw [w]), List.filterMap_nil]
                    rw [e]
                    exact prI_snoc tz pr
              · refine ⟨dd, _, _, rfl, s3, ndd, ?_⟩
                rw [gls_no hz c8]
                exact ld
            rintro σ H3 ⟨dd, a12, a13, rfl, s3, ndd, ld⟩
            rw [List.length_map, List.take_of_length_le (Nat.le_refl _)] at ld
            have s03 := s12.trans s3
            have hle3 := s03 _ _ hle
            have dr3 := dr.same s03
            have R3 := R.same s03
            have b3 := b0.trans (But.of s03)
            have nde : dd ≠ le := fun w => by rw [w, hle] at ndd; cases ndd
            -- ends.reverse()
            refine ⟨_, rfl, .inl ⟨rfl, _, SqL.of hle3⟩, le, _, rfl, rfl, hle3, ?_⟩
            have hle4 : (upd H3 le (.lst (es.map V.str).reverse)) le = some (.lst (es.reverse.map V.str)) := by
              rw [upd_same, List.map_reverse]
            have dr4 : Dr (upd H3 le (.lst (es.map V.str).reverse)) ra pa xs c := ⟨dr3.ra.updL hle3, dr3.pa.updL hle3, dr3.l3, dr3.cl, dr3.nm, dr3.nd⟩
            have ld4 : Lp (upd H3 le (.lst (es.map V.str).reverse)) dd (sents fw (gls src ys)) := ld.upd hle3 nde
            have R4 : Rng (upd H3 le (.lst (es.map V.str).reverse)) r := R3.upd2 ner
            have b4 : But r H (upd H3 le (.lst (es.map V.str).reverse)) := fun b' o nb e => by
              rw [upd_ne (fun w => by rw [w, nle0] at e; cases e)]
              exact b3 b' o nb e
            generalize upd H3 le (.lst (es.map V.str).reverse) = H4 at hle4 dr4 ld4 R4 b4 ⊢
            -- kept
            refine ⟨_, rfl, le, _, rfl, .inl (SqL.of hle4), fun kp nk => ?_⟩
            generalize hg : upd _ kp _ = H5
            obtain ⟨s5, gk⟩ := upd_new hg nk
            clear hg
            have rl : es.reverse.length ≤ 20 := by
              rw [List.length_reverse]
              omega
            have np0 : ∀ g ∈ gls src ys, Nm g := fun g hg => en g (perm.mem_iff.mp (gls_mem hg))
            have ng : ∀ q ∈ sents fw (gls src ys), Nm q.1 ∧ (q.2 = 0 ∨ q.2 = 1) := fun q hq => by
              obtain ⟨g, mg, e⟩ := List.mem_filterMap.mp hq
              unfold sentTo at e
              rcases fwv g with w | w | w <;> rw [w] at e
              · cases e
              · injection e with e
                rw [← e]
                exact ⟨np0 g mg, .inl rfl⟩
              · injection e with e
                rw [← e]
                exact ⟨np0 g mg, .inr rfl⟩
            have lg : (sents fw (gls src ys)).length ≤ 14 := by
              have a1 := List.length_filterMap_le (sentTo fw) (gls src ys)
              have a2 := gls_len src ys
              rw [perm.length_eq] at a2
              unfold sents
              omega
            have FP := tam.fits (gd_prs ng lg).tm (Nat.le_trans (gd_prs ng lg).dp (by decide))
            have shn := sh_ends (xs := es.reverse) fun x hx => en x (List.mem_reverse.mp hx)
            -- told
            refine ⟨_, rfl, _, rfl, _, rfl, _, rfl, _, rfl, _, rfl, rfl, rfl, ?_⟩
            show spForw K C U [.ref le, optV src, .int 0, .ref ra, .str (xs.getD j ""), .str ph] _ _ _
            refine use_forw (dr4.same s5) (by omega) jl (.inl (SqL.of (s5 _ _ hle4))) rl fun ys1 H6 L1 q1 r1 s6 nL1 lp1 => ?_
            have ey := sort_uniq (q1.trans (List.reverse_perm es)) r1 perm srt
            subst ey
            rw [← hfw] at lp1
            generalize sents fw (gls src ys1) = ps at ld4 ng lg FP lp1
            have s46 := s5.trans s6
            refine ⟨_, rfl, _, prsD ps, rfl, lp1.dn, FP.1, FP.2.1, FP.2.2, ?_⟩
            refine ⟨_, rfl, _, prsD ps, rfl, (ld4.same s46).dn, FP.1, FP.2.1, FP.2.2, ?_⟩
            refine ⟨rfl, _, rfl, ?_⟩
            generalize PyData.shown (prsD ps) = sh0
            refine iteNS rfl ?_
            refine ⟨_, rfl, _, rfl, _, _, (sq_dn (s46 _ _ hle4)).dp shn.1, (sq_dn (s6 _ _ gk)).dp shn.1, shn.2, shn.2, _, rfl, ?_⟩
            rw [SeqAt.eqv_refl _ shn.1]
            refine iteF ?_
            -- early
            refine ⟨_, rfl, _, rfl, _, rfl, _, rfl, _, rfl, rfl, rfl, ?_⟩
            show spForw K C U [.ref le, optV src, .int 0, .ref ra, .str (xs.getD j ""), .str "reserved"] _ _ _
            refine use_forw (dr4.same s46) (by omega) jl (.inl (SqL.of (s46 _ _ hle4))) rl fun ys2 H7 L2 q2 r2 s7 nL2 lp2 => ?_
            have ey := sort_uniq q2 r2 q1 r1
            subst ey
            rw [early_sents] at lp2
            have s47 := s46.trans s7
            -- plain
            refine ⟨_, rfl, le, es.reverse, rfl, SqL.of (s47 _ _ hle4), by omega, fun ys4 p8 perm4 srt4 np8 => ?_⟩
            have ey := sort_uniq perm4 srt4 q2 r2
            subst ey
            generalize hg : upd _ p8 _ = H8
            obtain ⟨s8, hp8⟩ := upd_new hg np8
            clear hg
            refine ⟨p8, rfl, ⟨_, SqL.of hp8⟩, fun D4 nD => ?_⟩
            refine lc_it (walk_list (K := K) (a := p8) (xs := ys4.map V.str)) (fun i H' => Same H8 H' ∧ ∃ ts : List Addr, H' D4 = some (.lst (ts.map V.ref)) ∧ ts.length ≤ i ∧ PrI H' ts ((gls src (ys4.take i)).map fun g => (g, 0)))
              ⟨same_upd nD, [], upd_same, Nat.le_refl _, trivial⟩ (fun i H' _ h => SqL.of (h.1 _ _ hp8)) ?_ ?_
            · rintro k y HX HY hk ⟨s3, ts, hD, tl, pr⟩ ⟨rfl, hy⟩
              rw [List.getElem?_map] at hy
              obtain ⟨z, hz, rfl⟩ := Option.map_eq_some_iff.mp hy
              rw [List.length_map] at hk
              refine ⟨rfl, ?_⟩
              refine ⟨_, rfl, _, rfl, scal_opt z src, _, rfl, ite2 (fun c8 => ?_) (fun c8 => ?_)⟩
              · refine ⟨_, rfl, (by show 2 ≤ sizeLine; decide), fun t o nt st tz => ?_⟩
                refine ⟨_, st _ _ hD, ?_, same_upd2 (s3.trans st) nD, ts ++ [t], ?_, ?_, ?_⟩
                · rw [List.length_map]
                  exact small200 (by omega)
                · rw [upd_same, List.map_append]
                  rfl
                · rw [List.length_append]
                  show ts.length + 1 ≤ k + 1
                  omega
                · rw [gls_yes hz c8, List.map_append]
                  exact (pr.same st).snoc_upd (st _ _ hD) tz
              · refine ⟨s3, ts, hD, by omega, ?_⟩
                rw [gls_no hz c8]
                exact pr
            rintro H9 ⟨s9, ts, hD, tl, pr⟩
            rw [List.length_map, List.take_of_length_le (Nat.le_refl _)] at pr
            have l9 : Lp H9 D4 ((gls src ys4).map fun g => (g, 0)) := ⟨ts, hD, pr⟩
            have s79 := s8.trans s9
            have ng4 : ∀ q ∈ (gls src ys4).map (fun g => (g, (0 : Int))), Nm q.1 ∧ (q.2 = 0 ∨ q.2 = 1) := fun q hq => by
              obtain ⟨g, mg, rfl⟩ := List.mem_map.mp hq
              exact ⟨np0 g mg, .inl rfl⟩
            have lg4 : ((gls src ys4).map fun g => (g, (0 : Int))).length ≤ 14 := by
              rw [List.length_map]
              have a2 := gls_len src ys4
              rw [perm4.length_eq, List.length_reverse] at a2
              omega
            have FE := tam.fits (gd_prs ng4 lg4).tm (Nat.le_trans (gd_prs ng4 lg4).dp (by decide))
            have lp2 := lp2.same s79
            generalize (gls src ys4).map (fun g => (g, (0 : Int))) = pe at l9 lp2 FE
            refine ⟨_, rfl, _, prsD pe, rfl, lp2.dn, FE.1, FE.2.1, FE.2.2, ?_⟩
            refine ⟨_, rfl, _, prsD pe, rfl, l9.dn, FE.1, FE.2.1, FE.2.2, rfl, ?_⟩
            rw [decide_eq_true rfl]
            have s49 := s47.trans s79
            exact q _ (b4.trans (But.of s49)) (R4.same s49)
          | some x =>
            refine ⟨_, rfl, rfl, _, rfl, iteF ?_⟩
            refine ⟨_, rfl, r, 2, rfl, R, by decide, by decide, fun HG b bG RG e0 e1 => ?_⟩
            have hb : b = 0 ∨ b = 1 := by omega
            have hle := bG _ _ ner hle
            have dr := dr.but R bG
            have b0 := b0.trans bG
            have R := RG
            clear bG RG e0 e1
            generalize (some x : Option Str) = src
            generalize HG = HF at hle dr b0 R ⊢
            -- due
            obtain ⟨fw, hfw⟩ : ∃ fw : Str → V, fw = fun g => fwd xs c j ph src g b := ⟨_, rfl⟩
            have fwv : ∀ g, fw g = .non ∨ fw g = .int 0 ∨ fw g = .int 1 := fun g => by rw [hfw]; exact fwd_val hb
            refine ⟨(by show 0 ≤ sizeLine; decide), fun d0 nd0 => ?_⟩
            generalize hg : upd _ d0 _ = H1
            obtain ⟨s1, g0⟩ := upd_new hg nd0
            clear hg
            have hle1 := s1 _ _ hle
            refine ⟨_, rfl, le, es, rfl, SqL.of hle1, by omega, fun ys p perm srt np => ?_⟩
            generalize hg : upd _ p _ = H2
            obtain ⟨s2, hp⟩ := upd_new hg np
            clear hg
            have s12 := s1.trans s2
            have yl : ys.length ≤ 20 := by
              rw [perm.length_eq]
              omega
            refine ⟨p, rfl, ⟨_, SqL.of hp⟩, ?_⟩
            refine for_it (walk_list (K := K) (a := p) (xs := ys.map V.str)) (fun i σ H' => (∃ dd a12 a13, σ = [some (.ref r), some (.ref L), some (.ref pa), some (.ref bs), some (.ref ra), some (.int (j : Int)), some (.ref le), some (.str (xs.getD j "")), some (.str ph), some (optV src), some (.int b), some (.ref dd), a12, a13, none, none, none, none] ∧ Same H2 H' ∧ HF dd = none ∧ Lp H' dd (sents fw (gls src (ys.take i)))))
              ⟨_, _, _, rfl, Same.refl _, nd0, [], s2 _ _ g0, trivial⟩ (fun _ _ _ _ h => by obtain ⟨_, _, _, _, h2, _⟩ := h; exact SqL.of (h2 _ _ hp)) ?_ ?_
            · rintro k y σ H3 H4 hk ⟨dd, a12, a13, rfl, s3, ndd, ld⟩ ⟨rfl, hy⟩
              rw [List.getElem?_map] at hy
              obtain ⟨z, hz, rfl⟩ := Option.map_eq_some_iff.mp hy
              have s03 := s12.trans s3
              refine ⟨_, rfl, _, rfl, scal_opt z src, _, rfl, ite2 (fun c8 => ?_) (fun c8 => ?_)⟩
              · refine ⟨_, rfl, _, rfl, _, rfl, _, rfl, _, rfl, _, rfl, ?_⟩
                dsimp only [tNil]
                refine use_fwd (j := j) (ph := ph) (src := src) (g := z) (b := b) (dr.same s03) (by omega) jl fun H5 s5 => ?_
                have ef : fwd xs c j ph src z b = fw z := by rw [hfw]
                rw [ef]
                refine ⟨_, rfl, _, rfl, _, rfl, (by show 2 ≤ sizeLine; decide), fun t o nt st tz => ?_⟩
                generalize upd _ t o = H6 at st tz ⊢
                refine ⟨(by show 1 ≤ sizeLine; decide), fun l6 n6 => ?_⟩
                generalize hg : upd _ l6 _ = H7
                obtain ⟨s7, g7⟩ := upd_new hg n6
                clear hg
                obtain ⟨ts, hdd, pr⟩ := ld
                have hdd := s7 _ _ (st _ _ (s5 _ _ hdd))
                have pr := ((pr.same s5).same st).same s7
                have tz := tz.same s7
                have tl : ts.length ≤ 20 := by
                  rw [PrI.len pr]
                  have a1 := List.length_filterMap_le (sentTo fw) (gls src (ys.take k))
                  have a2 := gls_len src (ys.take k)
                  rw [List.length_take] at a2
                  unfold sents
                  omega
                refine ⟨_, rfl, rfl, .inr ⟨_, rfl, l6, _, _, rfl, rfl, g7, ?_, ?_, ?_, fun l8 n8 => ?_⟩⟩
                · split <;> decide
                · split <;> decide
                · split <;> first
                    | exact (show 1 * 1 ≤ sizeLine by decide)
                    | exact (show 1 * 0 ≤ sizeLine by decide)
                generalize hg : upd _ l8 _ = H8
                obtain ⟨s8, g8⟩ := upd_new hg n8
                clear hg
                refine ⟨dd, l8, _, _, rfl, rfl, s8 _ _ hdd, g8, ?_, fun l9 n9 => ?_⟩
                · rw [List.length_map]
                  refine Nat.le_trans (m := 40) ?_ (by decide)
                  have : ((List.replicate (if (!decide (fw z = V.non)) = true then (1 : Int) else 0).toNat [V.ref t]).flatten).length ≤ 1 := by
                    split <;> first
                      | exact (show 0 ≤ 1 by decide)
                      | exact (show 1 ≤ 1 by decide)
                  omega
                have nl9 : HF l9 = none := by
                  cases w : HF l9 with
                  | none => rfl
                  | some o =>
                    rw [(s03.trans (s5.trans (st.trans (s7.trans s8)))) _ _ w] at n9
                    cases n9
                generalize hg : upd _ l9 _ = H9
                obtain ⟨s9, g9⟩ := upd_new hg n9
                clear hg
                have s39 := s5.trans (st.trans (s7.trans (s8.trans s9)))
                have pr := (pr.same s8).same s9
                have tz := (tz.same s8).same s9
                refine ⟨l9, _, _, rfl, s3.trans s39, nl9, ?_⟩
                rw [gls_yes hz c8]
                rcases fwv z with w | w | w
                · rw [w] at g9
                  refine ⟨ts, ?_, ?_⟩
                  · rw [g9]
                    show some (HO.lst (ts.map V.ref ++ [])) = _
                    rw [List.append_nil]
                  · have e : sents fw (gls src (ys.take k) ++ [z]) = sents fw (gls src (ys.take k)) := by
                      unfold sents
                      rw [List.filterMap_append]
                      show _ ++ List.filterMap (sentTo fw) [z] = _
                      rw [List.filterMap_cons_none (by unfold sentTo; rw [w]), List.filterMap_nil, List.append_nil]
                    rw [e]
                    exact pr
                · rw [w] at g9 tz
                  refine ⟨ts ++ [t], ?_, ?_⟩
                  · rw [g9, List.map_append]
                    rfl
                  · have e : sents fw (gls src (ys.take k) ++ [z]) = sents fw (gls src (ys.take k)) ++ [(z, 0)] := by
                      unfold sents
                      rw [List.filterMap_append]
                      show _ ++ List.filterMap (sentTo fw) [z] = _
                      rw [List.filterMap_cons_some (b := (z, 0)) (by unfold sentTo; rw [w]), List.filterMap_nil]
                    rw [e]
                    exact prI_snoc tz pr
                · rw [w] at g9 tz
                  refine ⟨ts ++ [t], ?_, ?_⟩
                  · rw [g9, List.map_append]
                    rfl
                  · have e : sents fw (gls src (ys.take k) ++ [z]) = sents fw (gls src (ys.take k)) ++ [(z, 1)] := by
                      unfold sents
                      rw [List.filterMap_append]
                      show _ ++ List.filterMap (sentTo fw) [z] = _
                      rw [List.filterMap_cons_some (b := (z, 1)) (by unfold sentTo; rw [w]), List.filterMap_nil]
                    rw [e]
                    exact prI_snoc tz pr
              · refine ⟨dd, _, _, rfl, s3, ndd, ?_⟩
                rw [gls_no hz c8]
                exact ld
            rintro σ H3 ⟨dd, a12, a13, rfl, s3, ndd, ld⟩
            rw [List.length_map, List.take_of_length_le (Nat.le_refl _)] at ld
            have s03 := s12.trans s3
            have hle3 := s03 _ _ hle
            have dr3 := dr.same s03
            have R3 := R.same s03
            have b3 := b0.trans (But.of s03)
            have nde : dd ≠ le := fun w => by rw [w, hle] at ndd; cases ndd
            -- ends.reverse()
            refine ⟨_, rfl, .inl ⟨rfl, _, SqL.of hle3⟩, le, _, rfl, rfl, hle3, ?_⟩
            have hle4 : (upd H3 le (.lst (es.map V.str).reverse)) le = some (.lst (es.reverse.map V.str)) := by
              rw [upd_same, List.map_reverse]
            have dr4 : Dr (upd H3 le (.lst (es.map V.str).reverse)) ra pa xs c := ⟨dr3.ra.updL hle3, dr3.pa.updL hle3, dr3.l3, dr3.cl, dr3.nm, dr3.nd⟩
            have ld4 : Lp (upd H3 le (.lst (es.map V.str).reverse)) dd (sents fw (gls src ys)) := ld.upd hle3 nde
            have R4 : Rng (upd H3 le (.lst (es.map V.str).reverse)) r := R3.upd2 ner
            have b4 : But r H (upd H3 le (.lst (es.map V.str).reverse)) := fun b' o nb e => by
              rw [upd_ne (fun w => by rw [w, nle0] at e; cases e)]
              exact b3 b' o nb e
            generalize upd H3 le (.lst (es.map V.str).reverse) = H4 at hle4 dr4 ld4 R4 b4 ⊢
            -- kept
            refine ⟨_, rfl, le, _, rfl, .inl (SqL.of hle4), fun kp nk => ?_⟩
            generalize hg : upd _ kp _ = H5
            obtain ⟨s5, gk⟩ := upd_new hg nk
            clear hg
            have rl : es.reverse.length ≤ 20 := by
              rw [List.length_reverse]
              omega
            have np0 : ∀ g ∈ gls src ys, Nm g := fun g hg => en g (perm.mem_iff.mp (gls_mem hg))
            have ng : ∀ q ∈ sents fw (gls src ys), Nm q.1 ∧ (q.2 = 0 ∨ q.2 = 1) := fun q hq => by
              obtain ⟨g, mg, e⟩ := List.mem_filterMap.mp hq
              unfold sentTo at e
              rcases fwv g with w | w | w <;> rw [w] at e
              · cases e
              · injection e with e
                rw [← e]
                exact ⟨np0 g mg, .inl rfl⟩
              · injection e with e
                rw [← e]
                exact ⟨np0 g mg, .inr rfl⟩
            have lg : (sents fw (gls src ys)).length ≤ 14 := by
              have a1 := List.length_filterMap_le (sentTo fw) (gls src ys)
              have a2 := gls_len src ys
              rw [perm.length_eq] at a2
              unfold sents
              omega
            have FP := tam.fits (gd_prs ng lg).tm (Nat.le_trans (gd_prs ng lg).dp (by decide))
            have shn := sh_ends (xs := es.reverse) fun x hx => en x (List.mem_reverse.mp hx)
            -- told
            refine ⟨_, rfl, _, rfl, _, rfl, _, rfl, _, rfl, _, rfl, rfl, rfl, ?_⟩
            show spForw K C U [.ref le, optV src, .int b, .ref ra, .str (xs.getD j ""), .str ph] _ _ _
            refine use_forw (dr4.same s5) (by omega) jl (.inl (SqL.of (s5 _ _ hle4))) rl fun ys1 H6 L1 q1 r1 s6 nL1 lp1 => ?_
            have ey := sort_uniq (q1.trans (List.reverse_perm es)) r1 perm srt
            subst ey
            rw [← hfw] at lp1
            generalize sents fw (gls src ys1) = ps at ld4 ng lg FP lp1
            have s46 := s5.trans s6
            refine ⟨_, rfl, _, prsD ps, rfl, lp1.dn, FP.1, FP.2.1, FP.2.2, ?_⟩
            refine ⟨_, rfl, _, prsD ps, rfl, (ld4.same s46).dn, FP.1, FP.2.1, FP.2.2, ?_⟩
            refine ⟨rfl, _, rfl, ?_⟩
            generalize PyData.shown (prsD ps) = sh0
            refine iteNS rfl ?_
            refine ⟨_, rfl, _, rfl, _, _, (sq_dn (s46 _ _ hle4)).dp shn.1, (sq_dn (s6 _ _ gk)).dp shn.1, shn.2, shn.2, _, rfl, ?_⟩
            rw [SeqAt.eqv_refl _ shn.1]
            refine iteF ?_
            -- early
            refine ⟨_, rfl, _, rfl, _, rfl, _, rfl, _, rfl, rfl, rfl, ?_⟩
            show spForw K C U [.ref le, optV src, .int b, .ref ra, .str (xs.getD j ""), .str "reserved"] _ _ _
            refine use_forw (dr4.same s46) (by omega) jl (.inl (SqL.of (s46 _ _ hle4))) rl fun ys2 H7 L2 q2 r2 s7 nL2 lp2 => ?_
            have ey := sort_uniq q2 r2 q1 r1
            subst ey
            rw [early_sents] at lp2
            have s47 := s46.trans s7
            -- plain
            refine ⟨_, rfl, le, es.reverse, rfl, SqL.of (s47 _ _ hle4), by omega, fun ys4 p8 perm4 srt4 np8 => ?_⟩
            have ey := sort_uniq perm4 srt4 q2 r2
            subst ey
            generalize hg : upd _ p8 _ = H8
            obtain ⟨s8, hp8⟩ := upd_new hg np8
            clear hg
            refine ⟨p8, rfl, ⟨_, SqL.of hp8⟩, fun D4 nD => ?_⟩
            refine lc_it (walk_list (K := K) (a := p8) (xs := ys4.map V.str)) (fun i H' => Same H8 H' ∧ ∃ ts : List Addr, H' D4 = some (.lst (ts.map V.ref)) ∧ ts.length ≤ i ∧ PrI H' ts ((gls src (ys4.take i)).map fun g => (g, 0)))
              ⟨same_upd nD, [], upd_same, Nat.le_refl _, trivial⟩ (fun i H' _ h => SqL.of (h.1 _ _ hp8)) ?_ ?_
            · rintro k y HX HY hk ⟨s3, ts, hD, tl, pr⟩ ⟨rfl, hy⟩
              rw [List.getElem?_map] at hy
              obtain ⟨z, hz, rfl⟩ := Option.map_eq_some_iff.mp hy
              rw [List.length_map] at hk
              refine ⟨rfl, ?_⟩
              refine ⟨_, rfl, _, rfl, scal_opt z src, _, rfl, ite2 (fun c8 => ?_) (fun c8 => ?_)⟩
              · refine ⟨_, rfl, (by show 2 ≤ sizeLine; decide), fun t o nt st tz => ?_⟩
                refine ⟨_, st _ _ hD, ?_, same_upd2 (s3.trans st) nD, ts ++ [t], ?_, ?_, ?_⟩
                · rw [List.length_map]
                  exact small200 (by omega)
                · rw [upd_same, List.map_append]
                  rfl
                · rw [List.length_append]
                  show ts.length + 1 ≤ k + 1
                  omega
                · rw [gls_yes hz c8, List.map_append]
                  exact (pr.same st).snoc_upd (st _ _ hD) tz
              · refine ⟨s3, ts, hD, by omega, ?_⟩
                rw [gls_no hz c8]
                exact pr
            rintro H9 ⟨s9, ts, hD, tl, pr⟩
            rw [List.length_map, List.take_of_length_le (Nat.le_refl _)] at pr
            have l9 : Lp H9 D4 ((gls src ys4).map fun g => (g, 0)) := ⟨ts, hD, pr⟩
            have s79 := s8.trans s9
            have ng4 : ∀ q ∈ (gls src ys4).map (fun g => (g, (0 : Int))), Nm q.1 ∧ (q.2 = 0 ∨ q.2 = 1) := fun q hq => by
              obtain ⟨g, mg, rfl⟩ := List.mem_map.mp hq
              exact ⟨np0 g mg, .inl rfl⟩
            have lg4 : ((gls src ys4).map fun g => (g, (0 : Int))).length ≤ 14 := by
              rw [List.length_map]
              have a2 := gls_len src ys4
              rw [perm4.length_eq, List.length_reverse] at a2
              omega
            have FE := tam.fits (gd_prs ng4 lg4).tm (Nat.le_trans (gd_prs ng4 lg4).dp (by decide))
            have lp2 := lp2.same s79
            generalize (gls src ys4).map (fun g => (g, (0 : Int))) = pe at l9 lp2 FE
            refine ⟨_, rfl, _, prsD pe, rfl, lp2.dn, FE.1, FE.2.1, FE.2.2, ?_⟩
            refine ⟨_, rfl, _, prsD pe, rfl, l9.dn, FE.1, FE.2.1, FE.2.2, rfl, ?_⟩
            rw [decide_eq_true rfl]
            have s49 := s47.trans s79
            exact q _ (b4.trans (But.of s49)) (R4.same s49)

        · refine ⟨_, rfl, pa, _, _, .str (xs.getD 0 ""), rfl, rfl, dr.pa.sq, at_nat (i := 0) (by omega), le, _, _, rfl, rfl, hle, (by rw [List.length_map]; exact small200 (by omega)), ?_⟩
          have xm : Nm (xs.getD 0 "") := xn _ (getD_mem (by omega))
          obtain ⟨es, e6, en, hes⟩ : ∃ es : List Str, es.length ≤ 6 ∧ (∀ x ∈ es, Nm x) ∧ es0.map V.str ++ [V.str (xs.getD 0 "")] = es.map V.str := ⟨es0 ++ [_], (by rw [List.length_append]; show _ + 1 ≤ 6; omega), (fun x hx => by
            rcases List.mem_append.mp hx with hx | hx
            · exact en x hx
            · rw [List.mem_singleton.mp hx]
              exact xm), (by rw [List.map_append]; rfl)⟩
          rw [hes]
          have hle' : (upd H18 le (.lst (es.map V.str))) le = some (.lst (es.map V.str)) := upd_same
          have dr' : Dr (upd H18 le (.lst (es.map V.str))) ra pa xs c := ⟨dr.ra.updL hle, dr.pa.updL hle, dr.l3, dr.cl, dr.nm, dr.nd⟩
          have R' : Rng (upd H18 le (.lst (es.map V.str))) r := R.upd2 ner
          have b0' : But r H (upd H18 le (.lst (es.map V.str))) := fun b' o nb e => by
            rw [upd_ne (fun w => by rw [w, nle0] at e; cases e)]
            exact b0 b' o nb e
          generalize upd H18 le (.lst (es.map V.str)) = HC at hle' dr' R' b0' ⊢
          have hle := hle'
          have dr := dr'
          have R := R'
          have b0 := b0'
          clear hle' dr' R' b0' hes
          -- who, stage
          refine ⟨_, rfl, _, rfl, pa, _, _, .str (xs.getD j ""), rfl, rfl, dr.pa.sq, at_nat (i := j) jl, ?_⟩
          refine ⟨_, rfl, (by show 2 ≤ sizeLine; decide), fun lw nw => ?_⟩
          have new := R.ne nw
          generalize hg : upd _ lw _ = HE1
          obtain ⟨sw, gw⟩ := upd_new hg nw
          clear hg
          refine ⟨r, _, rfl, R.same sw, .inr ⟨lw, _, rfl, new, gw, (by show 0 < 2; decide), (by show 2 ≤ 1000; decide), fun HE u bE RE mu => ?_⟩⟩
          obtain ⟨ph, rfl⟩ : ∃ ph : Str, u = .str ph := by
            simp only [List.mem_cons, List.not_mem_nil, or_false] at mu
            rcases mu with rfl | rfl
            · exact ⟨_, rfl⟩
            · exact ⟨_, rfl⟩
          have hle := bE _ _ ner (sw _ _ hle)
          have dr := (dr.same sw).but (R.same sw) bE
          have b0 := b0.trans ((But.of sw).trans bE)
          have R := RE
          refine ⟨_, _, rfl, ?_⟩
          clear mu gw RE bE sw
          -- origin
          refine ⟨_, rfl, (by show 1 ≤ sizeLine; decide), fun lo no => ?_⟩
          generalize hg : upd _ lo _ = HF1
          obtain ⟨so, go⟩ := upd_new hg no
          clear hg
          refine ⟨_, rfl, lo, le, _, _, rfl, rfl, go, so _ _ hle, (by rw [List.length_map]; exact Nat.le_trans (show 1 + es.length ≤ 20 by omega) (by decide)), fun lp np => ?_⟩
          have nep := (R.same so).ne np
          generalize hg : upd _ lp _ = HF2
          obtain ⟨sp, gp⟩ := upd_new hg np
          clear hg
          have sop := so.trans sp
          refine ⟨r, _, rfl, R.same sop, .inr ⟨lp, _, rfl, nep, gp, (by rw [List.length_append]; show 0 < 1 + _; omega), (by rw [List.length_append, List.length_map]; show 1 + _ ≤ 1000; omega), fun HF u bF RF mu => ?_⟩⟩
          obtain ⟨src, rfl⟩ : ∃ src : Option Str, u = optV src := by
            rcases List.mem_append.mp mu with mu | mu
            · rw [List.mem_singleton.mp mu]
              exact ⟨none, rfl⟩
            · obtain ⟨x, _, rfl⟩ := List.mem_map.mp mu
              exact ⟨some x, rfl⟩
          have hle := bF _ _ ner (sop _ _ hle)
          have dr := (dr.same sop).but (R.same sop) bF
          have b0 := b0.trans ((But.of sop).trans bF)
          have R := RF
          clear mu gp go RF bF so sp sop
          -- mark
          cases src with
          | none =>
            refine ⟨_, rfl, rfl, _, rfl, iteT ?_⟩
            obtain ⟨src, esrc⟩ : ∃ src : Option Str, src = none := ⟨_, rfl⟩
            rw [← esrc]
            have hb : (0 : Int) = 0 ∨ (0 : Int) = 1 := .inl rfl
            clear esrc
            -- due
            obtain ⟨fw, hfw⟩ : ∃ fw : Str → V, fw = fun g => fwd xs c j ph src g 0 := ⟨_, rfl⟩
            have fwv : ∀ g, fw g = .non ∨ fw g = .int 0 ∨ fw g = .int 1 := fun g => by rw [hfw]; exact fwd_val hb
            refine ⟨(by show 0 ≤ sizeLine; decide), fun d0 nd0 => ?_⟩
            generalize hg : upd _ d0 _ = H1
            obtain ⟨s1, g0⟩ := upd_new hg nd0
            clear hg
            have hle1 := s1 _ _ hle
            refine ⟨_, rfl, le, es, rfl, SqL.of hle1, by omega, fun ys p perm srt np => ?_⟩
            generalize hg : upd _ p _ = H2
            obtain ⟨s2, hp⟩ := upd_new hg np
            clear hg
            have s12 := s1.trans s2
            have yl : ys.length ≤ 20 := by
              rw [perm.length_eq]
              omega
            refine ⟨p, rfl, ⟨_, SqL.of hp⟩, ?_⟩
            refine for_it (walk_list (K := K) (a := p) (xs := ys.map V.str)) (fun i σ H' => (∃ dd a12 a13, σ = [some (.ref r), some (.ref L), some (.ref pa), some (.ref bs), some (.ref ra), some (.int (j : Int)), some (.ref le), some (.str (xs.getD j "")), some (.str ph), some (optV src), some (.int 0), some (.ref dd), a12, a13, none, none, none, none] ∧ Same H2 H' ∧ HF dd = none ∧ Lp H' dd (sents fw (gls src (ys.take i)))))
              ⟨_, _, _, rfl, Same.refl _, nd0, [], s2 _ _ g0, trivial⟩ (fun _ _ _ _ h => by obtain ⟨_, _, _, _, h2, _⟩ := h; exact SqL.of (h2 _ _ hp)) ?_ ?_
            · rintro k y σ H3 H4 hk ⟨dd, a12, a13, rfl, s3, ndd, ld⟩ ⟨rfl, hy⟩
              rw [List.getElem?_map] at hy
              obtain ⟨z, hz, rfl⟩ := Option.map_eq_some_iff.mp hy
              have s03 := s12.trans s3
              refine ⟨_, rfl, _, rfl, scal_opt z src, _, rfl, ite2 (fun c8 => ?_) (fun c8 => ?_)⟩
              · refine ⟨_, rfl, _, rfl, _, rfl, _, rfl, _, rfl, _, rfl, ?_⟩
                dsimp only [tNil]
                refine use_fwd (j := j) (ph := ph) (src := src) (g := z) (b := 0) (dr.same s03) (by omega) jl fun H5 s5 => ?_
                have ef : fwd xs c j ph src z 0 = fw z := by rw [hfw]
                rw [ef]
                refine ⟨_, rfl, _, rfl, _, rfl, (by show 2 ≤ sizeLine; decide), fun t o nt st tz => ?_⟩
                generalize upd _ t o = H6 at st tz ⊢
                refine ⟨(by show 1 ≤ sizeLine; decide), fun l6 n6 => ?_⟩
                generalize hg : upd _ l6 _ = H7
                obtain ⟨s7, g7⟩ := upd_new hg n6
                clear hg
                obtain ⟨ts, hdd, pr⟩ := ld
                have hdd := s7 _ _ (st _ _ (s5 _ _ hdd))
                have pr := ((pr.same s5).same st).same s7
                have tz := tz.same s7
                have tl : ts.length ≤ 20 := by
                  rw [PrI.len pr]
                  have a1 := List.length_filterMap_le (sentTo fw) (gls src (ys.take k))
                  have a2 := gls_len src (ys.take k)
                  rw [List.length_take] at a2
                  unfold sents
                  omega
                refine ⟨_, rfl, rfl, .inr ⟨_, rfl, l6, _, _, rfl, rfl, g7, ?_, ?_, ?_, fun l8 n8 => ?_⟩⟩
                · split <;> decide
                · split <;> decide
                · split <;> first
                    | exact (show 1 * 1 ≤ sizeLine by decide)
                    | exact (show 1 * 0 ≤ sizeLine by decide)
                generalize hg : upd _ l8 _ = H8
                obtain ⟨s8, g8⟩ := upd_new hg n8
                clear hg
                refine ⟨dd, l8, _, _, rfl, rfl, s8 _ _ hdd, g8, ?_, fun l9 n9 => ?_⟩
                · rw [List.length_map]
                  refine Nat.le_trans (m := 40) ?_ (by decide)
                  have : ((List.replicate (if (!decide (fw z = V.non)) = true then (1 : Int) else 0).toNat [V.ref t]).flatten).length ≤ 1 := by
                    split <;> first
                      | exact (show 0 ≤ 1 by decide)
                      | exact (show 1 ≤ 1 by decide)
                  omega
                have nl9 : HF l9 = none := by
                  cases w : HF l9 with
                  | none => rfl
                  | some o =>
                    rw [(s03.trans (s5.trans (st.trans (s7.trans s8)))) _ _ w] at n9
                    cases n9
                generalize hg : upd _ l9 _ = H9
                obtain ⟨s9, g9⟩ := upd_new hg n9
                clear hg
                have s39 := s5.trans (st.trans (s7.trans (s8.trans s9)))
                have pr := (pr.same s8).same s9
                have tz := (tz.same s8).same s9
                refine ⟨l9, _, _, rfl, s3.trans s39, nl9, ?_⟩
                rw [gls_yes hz c8]
                rcases fwv z with w | w | w
                · rw [w] at g9
                  refine ⟨ts, ?_, ?_⟩
                  · rw [g9]
                    show some (HO.lst (ts.map V.ref ++ [])) = _
                    rw [List.append_nil]
                  · have e : sents fw (gls src (ys.take k) ++ [z]) = sents fw (gls src (ys.take k)) := by
                      unfold sents
                      rw [List.filterMap_append]
                      show _ ++ List.filterMap (sentTo fw) [z] = _
                      rw [List.filterMap_cons_none (by unfold sentTo; rw [w]), List.filterMap_nil, List.append_nil]
                    rw [e]
                    exact pr
                · rw [w] at g9 tz
                  refine ⟨ts ++ [t], ?_, ?_⟩
                  · rw [g9, List.map_append]
                    rfl
                  · have e : sents fw (gls src (ys.take k) ++ [z]) = sents fw (gls src (ys.take k)) ++ [(z, 0)] := by
                      unfold sents
                      rw [List.filterMap_append]
                      show _ ++ List.filterMap (sentTo fw) [z] = _
                      rw [List.filterMap_cons_some (b := (z, 0)) (by unfold sentTo; rw [w]), List.filterMap_nil]
                    rw [e]
                    exact prI_snoc tz pr
                · rw [w] at g9 tz
                  refine ⟨ts ++ [t], ?_, ?_⟩
                  · rw [g9, List.map_append]
                    rfl
                  · have e : sents fw (gls src (ys.take k) ++ [z]) = sents fw (gls src (ys.take k)) ++ [(z, 1)] := by
                      unfold sents
                      rw [List.filterMap_append]
                      show _ ++ List.filterMap (sentTo fw) [z] = _
                      rw [List.filterMap_cons_some (b := (z, 1)) (by unfold sentTo; rw [w]), List.filterMap_nil]
                    rw [e]
                    exact prI_snoc tz pr
              · refine ⟨dd, _, _, rfl, s3, ndd, ?_⟩
                rw [gls_no hz c8]
                exact ld
            rintro σ H3 ⟨dd, a12, a13, rfl, s3, ndd, ld⟩
            rw [List.length_map, List.take_of_length_le (Nat.le_refl _)] at ld
            have s03 := s12.trans s3
            have hle3 := s03 _ _ hle
            have dr3 := dr.same s03
            have R3 := R.same s03
            have b3 := b0.trans (But.of s03)
            have nde : dd ≠ le := fun w => by rw [w, hle] at ndd; cases ndd
            -- ends.reverse()
            refine ⟨_, rfl, .inl ⟨rfl, _, SqL.of hle3⟩, le, _, rfl, rfl, hle3, ?_⟩
            have hle4 : (upd H3 le (.lst (es.map V.str).reverse)) le = some (.lst (es.reverse.map V.str)) := by
              rw [upd_same, List.map_reverse]
            have dr4 : Dr (upd H3 le (.lst (es.map V.str).reverse)) ra pa xs c := ⟨dr3.ra.updL hle3, dr3.pa.updL hle3, dr3.l3, dr3.cl, dr3.nm, dr3.nd⟩
            have ld4 : Lp (upd H3 le (.lst (es.map V.str).reverse)) dd (sents fw (gls src ys)) := ld.upd hle3 nde
            have R4 : Rng (upd H3 le (.lst (es.map V.str).reverse)) r := R3.upd2 ner
            have b4 : But r H (upd H3 le (.lst (es.map V.str).reverse)) := fun b' o nb e => by
              rw [upd_ne (fun w => by rw [w, nle0] at e; cases e)]
              exact b3 b' o nb e
            generalize upd H3 le (.lst (es.map V.str).reverse) = H4 at hle4 dr4 ld4 R4 b4 ⊢
            -- kept
            refine ⟨_, rfl, le, _, rfl, .inl (SqL.of hle4), fun kp nk => ?_⟩
            generalize hg : upd _ kp _ = H5
            obtain ⟨s5, gk⟩ := upd_new hg nk
            clear hg
            have rl : es.reverse.length ≤ 20 := by
              rw [List.length_reverse]
              omega
            have np0 : ∀ g ∈ gls src ys, Nm g := fun g hg => en g (perm.mem_iff.mp (gls_mem hg))
            have ng : ∀ q ∈ sents fw (gls src ys), Nm q.1 ∧ (q.2 = 0 ∨ q.2 = 1) := fun q hq => by
              obtain ⟨g, mg, e⟩ := List.mem_filterMap.mp hq
              unfold sentTo at e
              rcases fwv g with w | w | w <;> rw [w] at e
              · cases e
              · injection e with e
                rw [← e]
                exact ⟨np0 g mg, .inl rfl⟩
              · injection e with e
                rw [← e]
                exact ⟨np0 g mg, .inr rfl⟩
            have lg : (sents fw (gls src ys)).length ≤ 14 := by
              have a1 := List.length_filterMap_le (sentTo fw) (gls src ys)
              have a2 := gls_len src ys
              rw [perm.length_eq] at a2
              unfold sents
              omega
            have FP := tam.fits (gd_prs ng lg).tm (Nat.le_trans (gd_prs ng lg).dp (by decide))
            have shn := sh_ends (xs := es.reverse) fun x hx => en x (List.mem_reverse.mp hx)
            -- told
            refine ⟨_, rfl, _, rfl, _, rfl, _, rfl, _, rfl, _, rfl, rfl, rfl, ?_⟩
            show spForw K C U [.ref le, optV src, .int 0, .ref ra, .str (xs.getD j ""), .str ph] _ _ _
            refine use_forw (dr4.same s5) (by omega) jl (.inl (SqL.of (s5 _ _ hle4))) rl fun ys1 H6 L1 q1 r1 s6 nL1 lp1 => ?_
            have ey := sort_uniq (q1.trans (List.reverse_perm es)) r1 perm srt
            subst ey
            rw [← hfw] at lp1
            generalize sents fw (gls src ys1) = ps at ld4 ng lg FP lp1
            have s46 := s5.trans s6
            refine ⟨_, rfl, _, prsD ps, rfl, lp1.dn, FP.1, FP.2.1, FP.2.2, ?_⟩
            refine ⟨_, rfl, _, prsD ps, rfl, (ld4.same s46).dn, FP.1, FP.2.1, FP.2.2, ?_⟩
            refine ⟨rfl, _, rfl, ?_⟩
            generalize PyData.shown (prsD ps) = sh0
            refine iteNS rfl ?_
            refine ⟨_, rfl, _, rfl, _, _, (sq_dn (s46 _ _ hle4)).dp shn.1, (sq_dn (s6 _ _ gk)).dp shn.1, shn.2, shn.2, _, rfl, ?_⟩
            rw [SeqAt.eqv_refl _ shn.1]
            refine iteF ?_
            -- early
            refine ⟨_, rfl, _, rfl, _, rfl, _, rfl, _, rfl, rfl, rfl, ?_⟩
            show spForw K C U [.ref le, optV src, .int 0, .ref ra, .str (xs.getD j ""), .str "reserved"] _ _ _
            refine use_forw (dr4.same s46) (by omega) jl (.inl (SqL.of (s46 _ _ hle4))) rl fun ys2 H7 L2 q2 r2 s7 nL2 lp2 => ?_
            have ey := sort_uniq q2 r2 q1 r1
            subst ey
            rw [early_sents] at lp2
            have s47 := s46.trans s7
            -- plain
            refine ⟨_, rfl, le, es.reverse, rfl, SqL.of (s47 _ _ hle4), by omega, fun ys4 p8 perm4 srt4 np8 => ?_⟩
            have ey := sort_uniq perm4 srt4 q2 r2
            subst ey
            generalize hg : upd _ p8 _ = H8
            obtain ⟨s8, hp8⟩ := upd_new hg np8
            clear hg
            refine ⟨p8, rfl, ⟨_, SqL.of hp8⟩, fun D4 nD => ?_⟩
            refine lc_it (walk_list (K := K) (a := p8) (xs := ys4.map V.str)) (fun i H' => Same H8 H' ∧ ∃ ts : List Addr, H' D4 = some (.lst (ts.map V.ref)) ∧ ts.length ≤ i ∧ PrI H' ts ((gls src (ys4.take i)).map fun g => (g, 0)))
              ⟨same_upd nD, [], upd_same, Nat.le_refl _, trivial⟩ (fun i H' _ h => SqL.of (h.1 _ _ hp8)) ?_ ?_
            · rintro k y HX HY hk ⟨s3, ts, hD, tl, pr⟩ ⟨rfl, hy⟩
              rw [List.getElem?_map] at hy
              obtain ⟨z, hz, rfl⟩ := Option.map_eq_some_iff.mp hy
              rw [List.length_map] at hk
              refine ⟨rfl, ?_⟩
              refine ⟨_, rfl, _, rfl, scal_opt z src, _, rfl, ite2 (fun c8 => ?_) (fun c8 => ?_)⟩
              · refine ⟨_, rfl, (by show 2 ≤ sizeLine; decide), fun t o nt st tz => ?_⟩
                refine ⟨_, st _ _ hD, ?_, same_upd2 (s3.trans st) nD, ts ++ [t], ?_, ?_, ?_⟩
                · rw [List.length_map]
                  exact small200 (by omega)
                · rw [upd_same, List.map_append]
                  rfl
                · rw [List.length_append]
                  show ts.length + 1 ≤ k + 1
                  omega
                · rw [gls_yes hz c8, List.map_append]
                  exact (pr.same st).snoc_upd (st _ _ hD) tz
              · refine ⟨s3, ts, hD, by omega, ?_⟩
                rw [gls_no hz c8]
                exact pr
            rintro H9 ⟨s9, ts, hD, tl, pr⟩
            rw [List.length_map, List.take_of_length_le (Nat.le_refl _)] at pr
            have l9 : Lp H9 D4 ((gls src ys4).map fun g => (g, 0)) := ⟨ts, hD, pr⟩
            have s79 := s8.trans s9
            have ng4 : ∀ q ∈ (gls src ys4).map (fun g => (g, (0 : Int))), Nm q.1 ∧ (q.2 = 0 ∨ q.2 = 1) := fun q hq => by
              obtain ⟨g, mg, rfl⟩ := List.mem_map.mp hq
              exact ⟨np0 g mg, .inl rfl⟩
            have lg4 : ((gls src ys4).map fun g => (g, (0 : Int))).length ≤ 14 := by
              rw [List.length_map]
              have a2 := gls_len src ys4
              rw [perm4.length_eq, List.length_reverse] at a2
              omega
            have FE := tam.fits (gd_prs ng4 lg4).tm (Nat.le_trans (gd_prs ng4 lg4).dp (by decide))
            have lp2 := lp2.same s79
            generalize (gls src ys4).map (fun g => (g, (0 : Int))) = pe at l9 lp2 FE
            refine ⟨_, rfl, _, prsD pe, rfl, lp2.dn, FE.1, FE.2.1, FE.2.2, ?_⟩
            refine ⟨_, rfl, _, prsD pe, rfl, l9.dn, FE.1, FE.2.1, FE.2.2, rfl, ?_⟩
            rw [decide_eq_true rfl]
            have s49 := s47.trans s79
            exact q _ (b4.trans (But.of s49)) (R4.same s49)
          | some x =>
            refine ⟨_, rfl, rfl, _, rfl, iteF ?_⟩
            refine ⟨_, rfl, r, 2, rfl, R, by decide, by decide, fun HG b bG RG e0 e1 => ?_⟩
            have hb : b = 0 ∨ b = 1 := by omega
            have hle := bG _ _ ner hle
            have dr := dr.but R bG
            have b0 := b0.trans bG
            have R := RG
            clear bG RG e0 e1
            generalize (some x : Option Str) = src
            generalize HG = HF at hle dr b0 R ⊢
            -- due
            obtain ⟨fw, hfw⟩ : ∃ fw : Str → V, fw = fun g => fwd xs c j ph src g b := ⟨_, rfl⟩
            have fwv : ∀ g, fw g = .non ∨ fw g = .int 0 ∨ fw g = .int 1 := fun g => by rw [hfw]; exact fwd_val hb
            refine ⟨(by show 0 ≤ sizeLine; decide), fun d0 nd0 => ?_⟩
            generalize hg : upd _ d0 _ = H1
            obtain ⟨s1, g0⟩ := upd_new hg nd0
            clear hg
            have hle1 := s1 _ _ hle
            refine ⟨_, rfl, le, es, rfl, SqL.of hle1, by omega, fun ys p perm srt np => ?_⟩
            generalize hg : upd _ p _ = H2
            obtain ⟨s2, hp⟩ := upd_new hg np
            clear hg
            have s12 := s1.trans s2
            have yl : ys.length ≤ 20 := by
              rw [perm.length_eq]
              omega
            refine ⟨p, rfl, ⟨_, SqL.of hp⟩, ?_⟩
            refine for_it (walk_list (K := K) (a := p) (xs := ys.map V.str)) (fun i σ H' => (∃ dd a12 a13, σ = [some (.ref r), some (.ref L), some (.ref pa), some (.ref bs), some (.ref ra), some (.int (j : Int)), some (.ref le), some (.str (xs.getD j "")), some (.str ph), some (optV src), some (.int b), some (.ref dd), a12, a13, none, none, none, none] ∧ Same H2 H' ∧ HF dd = none ∧ Lp H' dd (sents fw (gls src (ys.take i)))))
              ⟨_, _, _, rfl, Same.refl _, nd0, [], s2 _ _ g0, trivial⟩ (fun _ _ _ _ h => by obtain ⟨_, _, _, _, h2, _⟩ := h; exact SqL.of (h2 _ _ hp)) ?_ ?_
            · rintro k y σ H3 H4 hk ⟨dd, a12, a13, rfl, s3, ndd, ld⟩ ⟨rfl, hy⟩
              rw [List.getElem?_map] at hy
              obtain ⟨z, hz, rfl⟩ := Option.map_eq_some_iff.mp hy
              have s03 := s12.trans s3
              refine ⟨_, rfl, _, rfl, scal_opt z src, _, rfl, ite2 (fun c8 => ?_) (fun c8 => ?_)⟩
              · refine ⟨_, rfl, _, rfl, _, rfl, _, rfl, _, rfl, _, rfl, ?_⟩
                dsimp only [tNil]
                refine use_fwd (j := j) (ph := ph) (src := src) (g := z) (b := b) (dr.same s03) (by omega) jl fun H5 s5 => ?_
                have ef : fwd xs c j ph src z b = fw z := by rw [hfw]
                rw [ef]
                refine ⟨_, rfl, _, rfl, _, rfl, (by show 2 ≤ sizeLine; decide), fun t o nt st tz => ?_⟩
                generalize upd _ t o = H6 at st tz ⊢
                refine ⟨(by show 1 ≤ sizeLine; decide), fun l6 n6 => ?_⟩
                generalize hg : upd _ l6 _ = H7
                obtain ⟨s7, g7⟩ := upd_new hg n6
                clear hg
                obtain ⟨ts, hdd, pr⟩ := ld
                have hdd := s7 _ _ (st _ _ (s5 _ _ hdd))
                have pr := ((pr.same s5).same st).same s7
                have tz := tz.same s7
                have tl : ts.length ≤ 20 := by
                  rw [PrI.len pr]
                  have a1 := List.length_filterMap_le (sentTo fw) (gls src (ys.take k))
                  have a2 := gls_len src (ys.take k)
                  rw [List.length_take] at a2
                  unfold sents
                  omega
                refine ⟨_, rfl, rfl, .inr ⟨_, rfl, l6, _, _, rfl, rfl, g7, ?_, ?_, ?_, fun l8 n8 => ?_⟩⟩
                · split <;> decide
                · split <;> decide
                · split <;> first
                    | exact (show 1 * 1 ≤ sizeLine by decide)
                    | exact (show 1 * 0 ≤ sizeLine by decide)
                generalize hg : upd _ l8 _ = H8
                obtain ⟨s8, g8⟩ := upd_new hg n8
                clear hg
                refine ⟨dd, l8, _, _, rfl, rfl, s8 _ _ hdd, g8, ?_, fun l9 n9 => ?_⟩
                · rw [List.length_map]
                  refine Nat.le_trans (m := 40) ?_ (by decide)
                  have : ((List.replicate (if (!decide (fw z = V.non)) = true then (1 : Int) else 0).toNat [V.ref t]).flatten).length ≤ 1 := by
                    split <;> first
                      | exact (show 0 ≤ 1 by decide)
                      | exact (show 1 ≤ 1 by decide)
                  omega
                have nl9 : HF l9 = none := by
                  cases w : HF l9 with
                  | none => rfl
                  | some o =>
                    rw [(s03.trans (s5.trans (st.trans (s7.trans s8)))) _ _ w] at n9
                    cases n9
                generalize hg : upd _ l9 _ = H9
                obtain ⟨s9, g9⟩ := upd_new hg n9
                clear hg
                have s39 := s5.trans (st.trans (s7.trans (s8.trans s9)))
                have pr := (pr.same s8).same s9
                have tz := (tz.same s8).same s9
                refine ⟨l9, _, _, rfl, s3.trans s39, nl9, ?_⟩
                rw [gls_yes hz c8]
                rcases fwv z with w | w | w
                · rw [w] at g9
                  refine ⟨ts, ?_, ?_⟩
                  · rw [g9]
                    show some (HO.lst (ts.map V.ref ++ [])) = _
                    rw [List.append_nil]
                  · have e : sents fw (gls src (ys.take k) ++ [z]) = sents fw (gls src (ys.take k)) := by
                      unfold sents
                      rw [List.filterMap_append]
                      show _ ++ List.filterMap (sentTo fw) [z] = _
                      rw [List.filterMap_cons_none (by unfold sentTo; rw [w]), List.filterMap_nil, List.append_nil]
                    rw [e]
                    exact pr
                · rw [w] at g9 tz
                  refine ⟨ts ++ [t], ?_, ?_⟩
                  · rw [g9, List.map_append]
                    rfl
                  · have e : sents fw (gls src (ys.take k) ++ [z]) = sents fw (gls src (ys.take k)) ++ [(z, 0)] := by
                      unfold sents
                      rw [List.filterMap_append]
                      show _ ++ List.filterMap (sentTo fw) [z] = _
                      rw [List.filterMap_cons_some (b := (z, 0)) (by unfold sentTo; rw [w]), List.filterMap_nil]
                    rw [e]
                    exact prI_snoc tz pr
                · rw [w] at g9 tz
                  refine ⟨ts ++ [t], ?_, ?_⟩
                  · rw [g9, List.map_append]
                    rfl
                  · have e : sents fw (gls src (ys.take k) ++ [z]) = sents fw (gls src (ys.take k)) ++ [(z, 1)] := by
                      unfold sents
                      rw [List.filterMap_append]
                      show _ ++ List.filterMap (sentTo fw) [z] = _
                      rw [List.filterMap_cons_some (b := (z, 1)) (by unfold sentTo; rw [w]), List.filterMap_nil]
                    rw [e]
                    exact prI_snoc tz pr
              · refine ⟨dd, _, _, rfl, s3, ndd, ?_⟩
                rw [gls_no hz c8]
                exact ld
            rintro σ H3 ⟨dd, a12, a13, rfl, s3, ndd, ld⟩
            rw [List.length_map, List.take_of_length_le (Nat.le_refl _)] at ld
            have s03 := s12.trans s3
            have hle3 := s03 _ _ hle
            have dr3 := dr.same s03
            have R3 := R.same s03
            have b3 := b0.trans (But.of s03)
            have nde : dd ≠ le := fun w => by rw [w, hle] at ndd; cases ndd
            -- ends.reverse()
            refine ⟨_, rfl, .inl ⟨rfl, _, SqL.of hle3⟩, le, _, rfl, rfl, hle3, ?_⟩
            have hle4 : (upd H3 le (.lst (es.map V.str).reverse)) le = some (.lst (es.reverse.map V.str)) := by
              rw [upd_same, List.map_reverse]
            have dr4 : Dr (upd H3 le (.lst (es.map V.str).reverse)) ra pa xs c := ⟨dr3.ra.updL hle3, dr3.pa.updL hle3, dr3.l3, dr3.cl, dr3.nm, dr3.nd⟩
            have ld4 : Lp (upd H3 le (.lst (es.map V.str).reverse)) dd (sents fw (gls src ys)) := ld.upd hle3 nde
            have R4 : Rng (upd H3 le (.lst (es.map V.str).reverse)) r := R3.upd2 ner
            have b4 : But r H (upd H3 le (.lst (es.map V.str).reverse)) := fun b' o nb e => by
              rw [upd_ne (fun w => by rw [w, nle0] at e; cases e)]
              exact b3 b' o nb e
            generalize upd H3 le (.lst (es.map V.str).reverse) = H4 at hle4 dr4 ld4 R4 b4 ⊢
            -- kept
            refine ⟨_, rfl, le, _, rfl, .inl (SqL.of hle4), fun kp nk => ?_⟩
            generalize hg : upd _ kp _ = H5
            obtain ⟨s5, gk⟩ := upd_new hg nk
            clear hg
            have rl : es.reverse.length ≤ 20 := by
              rw [List.length_reverse]
              omega
            have np0 : ∀ g ∈ gls src ys, Nm g := fun g hg => en g (perm.mem_iff.mp (gls_mem hg))
            have ng : ∀ q ∈ sents fw (gls src ys), Nm q.1 ∧ (q.2 = 0 ∨ q.2 = 1) := fun q hq => by
              obtain ⟨g, mg, e⟩ := List.mem_filterMap.mp hq
              unfold sentTo at e
              rcases fwv g with w | w | w <;> rw [w] at e
              · cases e
              · injection e with e
                rw [← e]
                exact ⟨np0 g mg, .inl rfl⟩
              · injection e with e
                rw [← e]
                exact ⟨np0 g mg, .inr rfl⟩
            have lg : (sents fw (gls src ys)).length ≤ 14 := by
              have a1 := List.length_filterMap_le (sentTo fw) (gls src ys)
              have a2 := gls_len src ys
              rw [perm.length_eq] at a2
              unfold sents
              omega
            have FP := tam.fits (gd_prs ng lg).tm (Nat.le_trans (gd_prs ng lg).dp (by decide))
            have shn := sh_ends (xs := es.reverse) fun x hx => en x (List.mem_reverse.mp hx)
            -- told
            refine ⟨_, rfl, _, rfl, _, rfl, _, rfl, _, rfl, _, rfl, rfl, rfl, ?_⟩
            show spForw K C U [.ref le, optV src, .int b, .ref ra, .str (xs.getD j ""), .str ph] _ _ _
            refine use_forw (dr4.same s5) (by omega) jl (.inl (SqL.of (s5 _ _ hle4))) rl fun ys1 H6 L1 q1 r1 s6 nL1 lp1 => ?_
            have ey := sort_uniq (q1.trans (List.reverse_perm es)) r1 perm srt
            subst ey
            rw [← hfw] at lp1
            generalize sents fw (gls src ys1) = ps at ld4 ng lg FP lp1
            have s46 := s5.trans s6
            refine ⟨_, rfl, _, prsD ps, rfl, lp1.dn, FP.1, FP.2.1, FP.2.2, ?_⟩
            refine ⟨_, rfl, _, prsD ps, rfl, (ld4.same s46).dn, FP.1, FP.2.1, FP.2.2, ?_⟩
            refine ⟨rfl, _, rfl, ?_⟩
            generalize PyData.shown (prsD ps) = sh0
            refine iteNS rfl ?_
            refine ⟨_, rfl, _, rfl, _, _, (sq_dn (s46 _ _ hle4)).dp shn.1, (sq_dn (s6 _ _ gk)).dp shn.1, shn.2, shn.2, _, rfl, ?_⟩
            rw [SeqAt.eqv_refl _ shn.1]
            refine iteF ?_
            -- early
            refine ⟨_, rfl, _, rfl, _, rfl, _, rfl, _, rfl, rfl, rfl, ?_⟩
            show spForw K C U [.ref le, optV src, .int b, .ref ra, .str (xs.getD j ""), .str "reserved"] _ _ _
            refine use_forw (dr4.same s46) (by omega) jl (.inl (SqL.of (s46 _ _ hle4))) rl fun ys2 H7 L2 q2 r2 s7 nL2 lp2 => ?_
            have ey := sort_uniq q2 r2 q1 r1
            subst ey
            rw [early_sents] at lp2
            have s47 := s46.trans s7
            -- plain
            refine ⟨_, rfl, le, es.reverse, rfl, SqL.of (s47 _ _ hle4), by omega, fun ys4 p8 perm4 srt4 np8 => ?_⟩
            have ey := sort_uniq perm4 srt4 q2 r2
            subst ey
            generalize hg : upd _ p8 _ = H8
            obtain ⟨s8, hp8⟩ := upd_new hg np8
            clear hg
            refine ⟨p8, rfl, ⟨_, SqL.of hp8⟩, fun D4 nD => ?_⟩
            refine lc_it (walk_list (K := K) (a := p8) (xs := ys4.map V.str)) (fun i H' => Same H8 H' ∧ ∃ ts : List Addr, H' D4 = some (.lst (ts.map V.ref)) ∧ ts.length ≤ i ∧ PrI H' ts ((gls src (ys4.take i)).map fun g => (g, 0)))
              ⟨same_upd nD, [], upd_same, Nat.le_refl _, trivial⟩ (fun i H' _ h => SqL.of (h.1 _ _ hp8)) ?_ ?_
            · rintro k y HX HY hk ⟨s3, ts, hD, tl, pr⟩ ⟨rfl, hy⟩
              rw [List.getElem?_map] at hy
              obtain ⟨z, hz, rfl⟩ := Option.map_eq_some_iff.mp hy
              rw [List.length_map] at hk
              refine ⟨rfl, ?_⟩
              refine ⟨_, rfl, _, rfl, scal_opt z src, _, rfl, ite2 (fun c8 => ?_) (fun c8 => ?_)⟩
              · refine ⟨_, rfl, (by show 2 ≤ sizeLine; decide), fun t o nt st tz => ?_⟩
                refine ⟨_, st _ _ hD, ?_, same_upd2 (s3.trans st) nD, ts ++ [t], ?_, ?_, ?_⟩
                · rw [List.length_map]
                  exact small200 (by omega)
                · rw [upd_same, List.map_append]
                  rfl
                · rw [List.length_append]
                  show ts.length + 1 ≤ k + 1
                  omega
                · rw [gls_yes hz c8, List.map_append]
                  exact (pr.same st).snoc_upd (st _ _ hD) tz
              · refine ⟨s3, ts, hD, by omega, ?_⟩
                rw [gls_no hz c8]
                exact pr
            rintro H9 ⟨s9, ts, hD, tl, pr⟩
            rw [List.length_map, List.take_of_length_le (Nat.le_refl _)] at pr
            have l9 : Lp H9 D4 ((gls src ys4).map fun g => (g, 0)) := ⟨ts, hD, pr⟩
            have s79 := s8.trans s9
            have ng4 : ∀ q ∈ (gls src ys4).map (fun g => (g, (0 : Int))), Nm q.1 ∧ (q.2 = 0 ∨ q.2 = 1) := fun q hq => by
              obtain ⟨g, mg, rfl⟩ := List.mem_map.mp hq
              exact ⟨np0 g mg, .inl rfl⟩
            have lg4 : ((gls src ys4).map fun g => (g, (0 : Int))).length ≤ 14 := by
              rw [List.length_map]
              have a2 := gls_len src ys4
              rw [perm4.length_eq, List.length_reverse] at a2
              omega
            have FE := tam.fits (gd_prs ng4 lg4).tm (Nat.le_trans (gd_prs ng4 lg4).dp (by decide))
            have lp2 := lp2.same s79
            generalize (gls src ys4).map (fun g => (g, (0 : Int))) = pe at l9 lp2 FE
            refine ⟨_, rfl, _, prsD pe, rfl, lp2.dn, FE.1, FE.2.1, FE.2.2, ?_⟩
            refine ⟨_, rfl, _, prsD pe, rfl, l9.dn, FE.1, FE.2.1, FE.2.2, rfl, ?_⟩
            rw [decide_eq_true rfl]
            have s49 := s47.trans s79
            exact q _ (b4.trans (But.of s49)) (R4.same s49)

      · obtain ⟨es, e6, en, hle⟩ : ∃ es : List Str, es.length ≤ 6 ∧ (∀ x ∈ es, Nm x) ∧ H18 le = some (.lst (es.map V.str)) := ⟨es0, by omega, en, hle⟩
        generalize H18 = HC at hle dr R b0 ⊢
        -- who, stage
        refine ⟨_, rfl, _, rfl, pa, _, _, .str (xs.getD j ""), rfl, rfl, dr.pa.sq, at_nat (i := j) jl, ?_⟩
        refine ⟨_, rfl, (by show 2 ≤ sizeLine; decide), fun lw nw => ?_⟩
        have new := R.ne nw
        generalize hg : upd _ lw _ = HE1
        obtain ⟨sw, gw⟩ := upd_new hg nw
        clear hg
        refine ⟨r, _, rfl, R.same sw, .inr ⟨lw, _, rfl, new, gw, (by show 0 < 2; decide), (by show 2 ≤ 1000; decide), fun HE u bE RE mu => ?_⟩⟩
        obtain ⟨ph, rfl⟩ : ∃ ph : Str, u = .str ph := by
          simp only [List.mem_cons, List.not_mem_nil, or_false] at mu
          rcases mu with rfl | rfl
          · exact ⟨_, rfl⟩
          · exact ⟨_, rfl⟩
        have hle := bE _ _ ner (sw _ _ hle)
        have dr := (dr.same sw).but (R.same sw) bE
        have b0 := b0.trans ((But.of sw).trans bE)
        have R := RE
        refine ⟨_, _, rfl, ?_⟩
        clear mu gw RE bE sw
        -- origin
        refine ⟨_, rfl, (by show 1 ≤ sizeLine; decide), fun lo no => ?_⟩
        generalize hg : upd _ lo _ = HF1
        obtain ⟨so, go⟩ := upd_new hg no
        clear hg
        refine ⟨_, rfl, lo, le, _, _, rfl, rfl, go, so _ _ hle, (by rw [List.length_map]; exact Nat.le_trans (show 1 + es.length ≤ 20 by omega) (by decide)), fun lp np => ?_⟩
        have nep := (R.same so).ne np
        generalize hg : upd _ lp _ = HF2
        obtain ⟨sp, gp⟩ := upd_new hg np
        clear hg
        have sop := so.trans sp
        refine ⟨r, _, rfl, R.same sop, .inr ⟨lp, _, rfl, nep, gp, (by rw [List.length_append]; show 0 < 1 + _; omega), (by rw [List.length_append, List.length_map]; show 1 + _ ≤ 1000; omega), fun HF u bF RF mu => ?_⟩⟩
        obtain ⟨src, rfl⟩ : ∃ src : Option Str, u = optV src := by
          rcases List.mem_append.mp mu with mu | mu
          · rw [List.mem_singleton.mp mu]
            exact ⟨none, rfl⟩
          · obtain ⟨x, _, rfl⟩ := List.mem_map.mp mu
            exact ⟨some x, rfl⟩
        have hle := bF _ _ ner (sop _ _ hle)
        have dr := (dr.same sop).but (R.same sop) bF
        have b0 := b0.trans ((But.of sop).trans bF)
        have R := RF
        clear mu gp go RF bF so sp sop
        -- mark
        cases src with
        | none =>
          refine ⟨_, rfl, rfl, _, rfl, iteT ?_⟩
          obtain ⟨src, esrc⟩ : ∃ src : Option Str, src = none := ⟨_, rfl⟩
          rw [← esrc]
          have hb : (0 : Int) = 0 ∨ (0 : Int) = 1 := .inl rfl
          clear esrc
          -- due
          obtain ⟨fw, hfw⟩ : ∃ fw : Str → V, fw = fun g => fwd xs c j ph src g 0 := ⟨_, rfl⟩
          have fwv : ∀ g, fw g = .non ∨ fw g = .int 0 ∨ fw g = .int 1 := fun g => by rw [hfw]; exact fwd_val hb
          refine ⟨(by show 0 ≤ sizeLine; decide), fun d0 nd0 => ?_⟩
          generalize hg : upd _ d0 _ = H1
          obtain ⟨s1, g0⟩ := upd_new hg nd0
          clear hg
          have hle1 := s1 _ _ hle
          refine ⟨_, rfl, le, es, rfl, SqL.of hle1, by omega, fun ys p perm srt np => ?_⟩
          generalize hg : upd _ p _ = H2
          obtain ⟨s2, hp⟩ := upd_new hg np
          clear hg
          have s12 := s1.trans s2
          have yl : ys.length ≤ 20 := by
            rw [perm.length_eq]
            omega
          refine ⟨p, rfl, ⟨_, SqL.of hp⟩, ?_⟩
          refine for_it (walk_list (K := K) (a := p) (xs := ys.map V.str)) (fun i σ H' => (∃ dd a12 a13, σ = [some (.ref r), some (.ref L), some (.ref pa), some (.ref bs), some (.ref ra), some (.int (j : Int)), some (.ref le), some (.str (xs.getD j "")), some (.str ph), some (optV src), some (.int 0), some (.ref dd), a12, a13, none, none, none, none] ∧ Same H2 H' ∧ HF dd = none ∧ Lp H' dd (sents fw (gls src (ys.take i)))))
            ⟨_, _, _, rfl, Same.refl _, nd0, [], s2 _ _ g0, trivial⟩ (fun _ _ _ _ h => by obtain ⟨_, _, _, _, h2, _⟩ := h; exact SqL.of (h2 _ _ hp)) ?_ ?_
          · rintro k y σ H3 H4 hk ⟨dd, a12, a13, rfl, s3, ndd, ld⟩ ⟨rfl, hy⟩
            rw [List.getElem?_map] at hy
            obtain ⟨z, hz, rfl⟩ := Option.map_eq_some_iff.mp hy
            have s03 := s12.trans s3
            refine ⟨_, rfl, _, rfl, scal_opt z src, _, rfl, ite2 (fun c8 => ?_) (fun c8 => ?_)⟩
            · refine ⟨_, rfl, _, rfl, _, rfl, _, rfl, _, rfl, _, rfl, ?_⟩
              dsimp only [tNil]
              refine use_fwd (j := j) (ph := ph) (src := src) (g := z) (b := 0) (dr.same s03) (by omega) jl fun H5 s5 => ?_
              have ef : fwd xs c j ph src z 0 = fw z := by rw [hfw]
              rw [ef]
              refine ⟨_, rfl, _, rfl, _, rfl, (by show 2 ≤ sizeLine; decide), fun t o nt st tz => ?_⟩
              generalize upd _ t o = H6 at st tz ⊢
              refine ⟨(by show 1 ≤ sizeLine; decide), fun l6 n6 => ?_⟩
              generalize hg : upd _ l6 _ = H7
              obtain ⟨s7, g7⟩ := upd_new hg n6
              clear hg
              obtain ⟨ts, hdd, pr⟩ := ld
              have hdd := s7 _ _ (st _ _ (s5 _ _ hdd))
              have pr := ((pr.same s5).same st).same s7
              have tz := tz.same s7
              have tl : ts.length ≤ 20 := by
                rw [PrI.len pr]
                have a1 := List.length_filterMap_le (sentTo fw) (gls src (ys.take k))
                have a2 := gls_len src (ys.take k)
                rw [List.length_take] at a2
                unfold sents
                omega
              refine ⟨_, rfl, rfl, .inr ⟨_, rfl, l6, _, _, rfl, rfl, g7, ?_, ?_, ?_, fun l8 n8 => ?_⟩⟩
              · split <;> decide
              · split <;> decide
              · split <;> first
                  | exact (show 1 * 1 ≤ sizeLine by decide)
                  | exact (show 1 * 0 ≤ sizeLine by decide)
              generalize hg : upd _ l8 _ = H8
              obtain ⟨s8, g8⟩ := upd_new hg n8
              clear hg
              refine ⟨dd, l8, _, _, rfl, rfl, s8 _ _ hdd, g8, ?_, fun l9 n9 => ?_⟩
              · rw [List.length_map]
                refine Nat.le_trans (m := 40) ?_ (by decide)
                have : ((List.replicate (if (!decide (fw z = V.non)) = true then (1 : Int) else 0).toNat [V.ref t]).flatten).length ≤ 1 := by
                  split <;> first
                    | exact (show 0 ≤ 1 by decide)
                    | exact (show 1 ≤ 1 by decide)
                omega
              have nl9 : HF l9 = none := by
                cases w : HF l9 with
                | none => rfl
                | some o =>
                  rw [(s03.trans (s5.trans (st.trans (s7.trans s8)))) _ _ w] at n9
                  cases n9
              generalize hg : upd _ l9 _ = H9
              obtain ⟨s9, g9⟩ := upd_new hg n9
              clear hg
              have s39 := s5.trans (st.trans (s7.trans (s8.trans s9)))
              have pr := (pr.same s8).same s9
              have tz := (tz.same s8).same s9
              refine ⟨l9, _, _, rfl, s3.trans s39, nl9, ?_⟩
              rw [gls_yes hz c8]
              rcases fwv z with w | w | w
              · rw [w] at g9
                refine ⟨ts, ?_, ?_⟩
                · rw [g9]
                  show some (HO.lst (ts.map V.ref ++ [])) = _
                  rw [List.append_nil]
                · have e : sents fw (gls src (ys.take k) ++ [z]) = sents fw (gls src (ys.take k)) := by
                    unfold sents
                    rw [List.filterMap_append]
                    show _ ++ List.filterMap (sentTo fw) [z] = _
                    rw [List.filterMap_cons_none (by unfold sentTo; rw [w]), List.filterMap_nil, List.append_nil]
                  rw [e]
                  exact pr
              · rw [w] at g9 tz
                refine ⟨ts ++ [t], ?_, ?_⟩
                · rw [g9, List.map_append]
                  rfl
                · have e : sents fw (gls src (ys.take k) ++ [z]) = sents fw (gls src (ys.take k)) ++ [(z, 0)] := by
                    unfold sents
                    rw [List.filterMap_append]
                    show _ ++ List.filterMap (sentTo fw) [z] = _
                    rw [List.filterMap_cons_some (b := (z, 0)) (by unfold sentTo; rw [w]), List.filterMap_nil]
                  rw [e]
                  exact prI_snoc tz pr
              · rw [w] at g9 tz
                refine ⟨ts ++ [t], ?_, ?_⟩
                · rw [g9, List.map_append]
                  rfl
                · have e : sents fw (gls src (ys.take k) ++ [z]) = sents fw (gls src (ys.take k)) ++ [(z, 1)] := by
                    unfold sents
                    rw [List.filterMap_append]
                    show _ ++ List.filterMap (sentTo fw) [z] = _
                    rw [List.filterMap_cons_some (b := (z, 1)) (by unfold sentTo; rw [w]), List.filterMap_nil]
                  rw [e]
                  exact prI_snoc tz pr
            · refine ⟨dd, _, _, rfl, s3, ndd, ?_⟩
              rw [gls_no hz c8]
              exact ld
          rintro σ H3 ⟨dd, a12, a13, rfl, s3, ndd, ld⟩
          rw [List.length_map, List.take_of_length_le (Nat.le_refl _)] at ld
          have s03 := s12.trans s3
          have hle3 := s03 _ _ hle
          have dr3 := dr.same s03
          have R3 := R.same s03
          have b3 := b0.trans (But.of s03)
          have nde : dd ≠ le := fun w => by rw [w, hle] at ndd; cases ndd
          -- ends.reverse()
          refine ⟨_, rfl, .inl ⟨rfl, _, SqL.of hle3⟩, le, _, rfl, rfl, hle3, ?_⟩
          have hle4 : (upd H3 le (.lst (es.map V.str).reverse)) le = some (.lst (es.reverse.map V.str)) := by
            rw [upd_same, List.map_reverse]
          have dr4 : Dr (upd H3 le (.lst (es.map V.str).reverse)) ra pa xs c := ⟨dr3.ra.updL hle3, dr3.pa.updL hle3, dr3.l3, dr3.cl, dr3.nm, dr3.nd⟩
          have ld4 : Lp (upd H3 le (.lst (es.map V.str).reverse)) dd (sents fw (gls src ys)) := ld.upd hle3 nde
          have R4 : Rng (upd H3 le (.lst (es.map V.str).reverse)) r := R3.upd2 ner
          have b4 : But r H (upd H3 le (.lst (es.map V.str).reverse)) := fun b' o nb e => by
            rw [upd_ne (fun w => by rw [w, nle0] at e; cases e)]
            exact b3 b' o nb e
          generalize upd H3 le (.lst (es.map V.str).reverse) = H4 at hle4 dr4 ld4 R4 b4 ⊢
          -- kept
          refine ⟨_, rfl, le, _, rfl, .inl (SqL.of hle4), fun kp nk => ?_⟩
          generalize hg : upd _ kp _ = H5
          obtain ⟨s5, gk⟩ := upd_new hg nk
          clear hg
          have rl : es.reverse.length ≤ 20 := by
            rw [List.length_reverse]
            omega
          have np0 : ∀ g ∈ gls src ys, Nm g := fun g hg => en g (perm.mem_iff.mp (gls_mem hg))
          have ng : ∀ q ∈ sents fw (gls src ys), Nm q.1 ∧ (q.2 = 0 ∨ q.2 = 1) := fun q hq => by
            obtain ⟨g, mg, e⟩ := List.mem_filterMap.mp hq
            unfold sentTo at e
            rcases fwv g with w | w | w <;> rw [w] at e
            · cases e
            · injection e with e
              rw [← e]
              exact ⟨np0 g mg, .inl rfl⟩
            · injection e with e
              rw [← e]
              exact ⟨np0 g mg, .inr rfl⟩
          have lg : (sents fw (gls src ys)).length ≤ 14 := by
            have a1 := List.length_filterMap_le (sentTo fw) (gls src ys)
            have a2 := gls_len src ys
            rw [perm.length_eq] at a2
            unfold sents
            omega
          have FP := tam.fits (gd_prs ng lg).tm (Nat.le_trans (gd_prs ng lg).dp (by decide))
          have shn := sh_ends (xs := es.reverse) fun x hx => en x (List.mem_reverse.mp hx)
          -- told
          refine ⟨_, rfl, _, rfl, _, rfl, _, rfl, _, rfl, _, rfl, rfl, rfl, ?_⟩
          show spForw K C U [.ref le, optV src, .int 0, .ref ra, .str (xs.getD j ""), .str ph] _ _ _
          refine use_forw (dr4.same s5) (by omega) jl (.inl (SqL.of (s5 _ _ hle4))) rl fun ys1 H6 L1 q1 r1 s6 nL1 lp1 => ?_
          have ey := sort_uniq (q1.trans (List.reverse_perm es)) r1 perm srt
          subst ey
          rw [← hfw] at lp1
          generalize sents fw (gls src ys1) = ps at ld4 ng lg FP lp1
          have s46 := s5.trans s6
          refine ⟨_, rfl, _, prsD ps, rfl, lp1.dn, FP.1, FP.2.1, FP.2.2, ?_⟩
          refine ⟨_, rfl, _, prsD ps, rfl, (ld4.same s46).dn, FP.1, FP.2.1, FP.2.2, ?_⟩
          refine ⟨rfl, _, rfl, ?_⟩
          generalize PyData.shown (prsD ps) = sh0
          refine iteNS rfl ?_
          refine ⟨_, rfl, _, rfl, _, _, (sq_dn (s46 _ _ hle4)).dp shn.1, (sq_dn (s6 _ _ gk)).dp shn.1, shn.2, shn.2, _, rfl, ?_⟩
          rw [SeqAt.eqv_refl _ shn.1]
          refine iteF ?_
          -- early
          refine ⟨_, rfl, _, rfl, _, rfl, _, rfl, _, rfl, rfl, rfl, ?_⟩
          show spForw K C U [.ref le, optV src, .int 0, .ref ra, .str (xs.getD j ""), .str "reserved"] _ _ _
          refine use_forw (dr4.same s46) (by omega) jl (.inl (SqL.of (s46 _ _ hle4))) rl fun ys2 H7 L2 q2 r2 s7 nL2 lp2 => ?_
          have ey := sort_uniq q2 r2 q1 r1
          subst ey
          rw [early_sents] at lp2
          have s47 := s46.trans s7
          -- plain
          refine ⟨_, rfl, le, es.reverse, rfl, SqL.of (s47 _ _ hle4), by omega, fun ys4 p8 perm4 srt4 np8 => ?_⟩
          have ey := sort_uniq perm4 srt4 q2 r2
          subst ey
          generalize hg : upd _ p8 _ = H8
          obtain ⟨s8, hp8⟩ := upd_new hg np8
          clear hg
          refine ⟨p8, rfl, ⟨_, SqL.of hp8⟩, fun D4 nD => ?_⟩
          refine lc_it (walk_list (K := K) (a := p8) (xs := ys4.map V.str)) (fun i H' => Same H8 H' ∧ ∃ ts : List Addr, H' D4 = some (.lst (ts.map V.ref)) ∧ ts.length ≤ i ∧ PrI H' ts ((gls src (ys4.take i)).map fun g => (g, 0)))
            ⟨same_upd nD, [], upd_same, Nat.le_refl _, trivial⟩ (fun i H' _ h => SqL.of (h.1 _ _ hp8)) ?_ ?_
          · rintro k y HX HY hk ⟨s3, ts, hD, tl, pr⟩ ⟨rfl, hy⟩
            rw [List.getElem?_map] at hy
            obtain ⟨z, hz, rfl⟩ := Option.map_eq_some_iff.mp hy
            rw [List.length_map] at hk
            refine ⟨rfl, ?_⟩
            refine ⟨_, rfl, _, rfl, scal_opt z src, _, rfl, ite2 (fun c8 => ?_) (fun c8 => ?_)⟩
            · refine ⟨_, rfl, (by show 2 ≤ sizeLine; decide), fun t o nt st tz => ?_⟩
              refine ⟨_, st _ _ hD, ?_, same_upd2 (s3.trans st) nD, ts ++ [t], ?_, ?_, ?_⟩
              · rw [List.length_map]
                exact small200 (by omega)
              · rw [upd_same, List.map_append]
                rfl
              · rw [List.length_append]
                show ts.length + 1 ≤ k + 1
                omega
              · rw [gls_yes hz c8, List.map_append]
                exact (pr.same st).snoc_upd (st _ _ hD) tz
            · refine ⟨s3, ts, hD, by omega, ?_⟩
              rw [gls_no hz c8]
              exact pr
          rintro H9 ⟨s9, ts, hD, tl, pr⟩
          rw [List.length_map, List.take_of_length_le (Nat.le_refl _)] at pr
          have l9 : Lp H9 D4 ((gls src ys4).map fun g => (g, 0)) := ⟨ts, hD, pr⟩
          have s79 := s8.trans s9
          have ng4 : ∀ q ∈ (gls src ys4).map (fun g => (g, (0 : Int))), Nm q.1 ∧ (q.2 = 0 ∨ q.2 = 1) := fun q hq => by
            obtain ⟨g, mg, rfl⟩ := List.mem_map.mp hq
            exact ⟨np0 g mg, .inl rfl⟩
          have lg4 : ((gls src ys4).map fun g => (g, (0 : Int))).length ≤ 14 := by
            rw [List.length_map]
            have a2 := gls_len src ys4
            rw [perm4.length_eq, List.length_reverse] at a2
            omega
          have FE := tam.fits (gd_prs ng4 lg4).tm (Nat.le_trans (gd_prs ng4 lg4).dp (by decide))
          have lp2 := lp2.same s79
          generalize (gls src ys4).map (fun g => (g, (0 : Int))) = pe at l9 lp2 FE
          refine ⟨_, rfl, _, prsD pe, rfl, lp2.dn, FE.1, FE.2.1, FE.2.2, ?_⟩
          refine ⟨_, rfl, _, prsD pe, rfl, l9.dn, FE.1, FE.2.1, FE.2.2, rfl, ?_⟩
          rw [decide_eq_true rfl]
          have s49 := s47.trans s79
          exact q _ (b4.trans (But.of s49)) (R4.same s49)
        | some x =>
          refine ⟨_, rfl, rfl, _, rfl, iteF ?_⟩
          refine ⟨_, rfl, r, 2, rfl, R, by decide, by decide, fun HG b bG RG e0 e1 => ?_⟩
          have hb : b = 0 ∨ b = 1 := by omega
          have hle := bG _ _ ner hle
          have dr := dr.but R bG
          have b0 := b0.trans bG
          have R := RG
          clear bG RG e0 e1
          generalize (some x : Option Str) = src
          generalize HG = HF at hle dr b0 R ⊢
          -- due
          obtain ⟨fw, hfw⟩ : ∃ fw : Str → V, fw = fun g => fwd xs c j ph src g b := ⟨_, rfl⟩
          have fwv : ∀ g, fw g = .non ∨ fw g = .int 0 ∨ fw g = .int 1 := fun g => by rw [hfw]; exact fwd_val hb
          refine ⟨(by show 0 ≤ sizeLine; decide), fun d0 nd0 => ?_⟩
          generalize hg : upd _ d0 _ = H1
          obtain ⟨s1, g0⟩ := upd_new hg nd0
          clear hg
          have hle1 := s1 _ _ hle
          refine ⟨_, rfl, le, es, rfl, SqL.of hle1, by omega, fun ys p perm srt np => ?_⟩
          generalize hg : upd _ p _ = H2
          obtain ⟨s2, hp⟩ := upd_new hg np
          clear hg
          have s12 := s1.trans s2
          have yl : ys.length ≤ 20 := by
            rw [perm.length_eq]
            omega
          refine ⟨p, rfl, ⟨_, SqL.of hp⟩, ?_⟩
          refine for_it (walk_list (K := K) (a := p) (xs := ys.map V.str)) (fun i σ H' => (∃ dd a12 a13, σ = [some (.ref r), some (.ref L), some (.ref pa), some (.ref bs), some (.ref ra), some (.int (j : Int)), some (.ref le), some (.str (xs.getD j "")), some (.str ph), some (optV src), some (.int b), some (.ref dd), a12, a13, none, none, none, none] ∧ Same H2 H' ∧ HF dd = none ∧ Lp H' dd (sents fw (gls src (ys.take i)))))
            ⟨_, _, _, rfl, Same.refl _, nd0, [], s2 _ _ g0, trivial⟩ (fun _ _ _ _ h => by obtain ⟨_, _, _, _, h2, _⟩ := h; exact SqL.of (h2 _ _ hp)) ?_ ?_
          · rintro k y σ H3 H4 hk ⟨dd, a12, a13, rfl, s3, ndd, ld⟩ ⟨rfl, hy⟩
            rw [List.getElem?_map] at hy
            obtain ⟨z, hz, rfl⟩ := Option.map_eq_some_iff.mp hy
            have s03 := s12.trans s3
            refine ⟨_, rfl, _, rfl, scal_opt z src, _, rfl, ite2 (fun c8 => ?_) (fun c8 => ?_)⟩
            · refine ⟨_, rfl, _, rfl, _, rfl, _, rfl, _, rfl, _, rfl, ?_⟩
              dsimp only [tNil]
              refine use_fwd (j := j) (ph := ph) (src := src) (g := z) (b := b) (dr.same s03) (by omega) jl fun H5 s5 => ?_
              have ef : fwd xs c j ph src z b = fw z := by rw [hfw]
              rw [ef]
              refine ⟨_, rfl, _, rfl, _, rfl, (by show 2 ≤ sizeLine; decide), fun t o nt st tz => ?_⟩
              generalize upd _ t o = H6 at st tz ⊢
              refine ⟨(by show 1 ≤ sizeLine; decide), fun l6 n6 => ?_⟩
              generalize hg : upd _ l6 _ = H7
              obtain ⟨s7, g7⟩ := upd_new hg n6
              clear hg
              obtain ⟨ts, hdd, pr⟩ := ld
              have hdd := s7 _ _ (st _ _ (s5 _ _ hdd))
              have pr := ((pr.same s5).same st).same s7
              have tz := tz.same s7
              have tl : ts.length ≤ 20 := by
                rw [PrI.len pr]
                have a1 := List.length_filterMap_le (sentTo fw) (gls src (ys.take k))
                have a2 := gls_len src (ys.take k)
                rw [List.length_take] at a2
                unfold sents
                omega
              refine ⟨_, rfl, rfl, .inr ⟨_, rfl, l6, _, _, rfl, rfl, g7, ?_, ?_, ?_, fun l8 n8 => ?_⟩⟩
              · split <;> decide
              · split <;> decide
              · split <;> first
                  | exact (show 1 * 1 ≤ sizeLine by decide)
                  | exact (show 1 * 0 ≤ sizeLine by decide)
              generalize hg : upd _ l8 _ = H8
              obtain ⟨s8, g8⟩ := upd_new hg n8
              clear hg
              refine ⟨dd, l8, _, _, rfl, rfl, s8 _ _ hdd, g8, ?_, fun l9 n9 => ?_⟩
              · rw [List.length_map]
                refine Nat.le_trans (m := 40) ?_ (by decide)
                have : ((List.replicate (if (!decide (fw z = V.non)) = true then (1 : Int) else 0).toNat [V.ref t]).flatten).length ≤ 1 := by
                  split <;> first
                    | exact (show 0 ≤ 1 by decide)
                    | exact (show 1 ≤ 1 by decide)
                omega
              have nl9 : HF l9 = none := by
                cases w : HF l9 with
                | none => rfl
                | some o =>
                  rw [(s03.trans (s5.trans (st.trans (s7.trans s8)))) _ _ w] at n9
                  cases n9
              generalize hg : upd _ l9 _ = H9
              obtain ⟨s9, g9⟩ := upd_new hg n9
              clear hg
              have s39 := s5.trans (st.trans (s7.trans (s8.trans s9)))
              have pr := (pr.same s8).same s9
              have tz := (tz.same s8).same s9
              refine ⟨l9, _, _, rfl, s3.trans s39, nl9, ?_⟩
              rw [gls_yes hz c8]
              rcases fwv z with w | w | w
              · rw [w] at g9
                refine ⟨ts, ?_, ?_⟩
                · rw [g9]
                  show some (HO.lst (ts.map V.ref ++ [])) = _
                  rw [List.append_nil]
                · have e : sents fw (gls src (ys.take k) ++ [z]) = sents fw (gls src (ys.take k)) := by
                    unfold sents
                    rw [List.filterMap_append]
                    show _ ++ List.filterMap (sentTo fw) [z] = _
                    rw [List.filterMap_cons_none (by unfold sentTo; rw [w]), List.filterMap_nil, List.append_nil]
                  rw [e]
                  exact pr
              · rw [w] at g9 tz
                refine ⟨ts ++ [t], ?_, ?_⟩
                · rw [g9, List.map_append]
                  rfl
                · have e : sents fw (gls src (ys.take k) ++ [z]) = sents fw (gls src (ys.take k)) ++ [(z, 0)] := by
                    unfold sents
                    rw [List.filterMap_append]
                    show _ ++ List.filterMap (sentTo fw) [z] = _
                    rw [List.filterMap_cons_some (b := (z, 0)) (by unfold sentTo; rw [w]), List.filterMap_nil]
                  rw [e]
                  exact prI_snoc tz pr
              · rw [w] at g9 tz
                refine ⟨ts ++ [t], ?_, ?_⟩
                · rw [g9, List.map_append]
                  rfl
                · have e : sents fw (gls src (ys.take k) ++ [z]) = sents fw (gls src (ys.take k)) ++ [(z, 1)] := by
                    unfold sents
                    rw [List.filterMap_append]
                    show _ ++ List.filterMap (sentTo fw) [z] = _
                    rw [List.filterMap_cons_some (b := (z, 1)) (by unfold sentTo; rw [w]), List.filterMap_nil]
                  rw [e]
                  exact prI_snoc tz pr
            · refine ⟨dd, _, _, rfl, s3, ndd, ?_⟩
              rw [gls_no hz c8]
              exact ld
          rintro σ H3 ⟨dd, a12, a13, rfl, s3, ndd, ld⟩
          rw [List.length_map, List.take_of_length_le (Nat.le_refl _)] at ld
          have s03 := s12.trans s3
          have hle3 := s03 _ _ hle
          have dr3 := dr.same s03
          have R3 := R.same s03
          have b3 := b0.trans (But.of s03)
          have nde : dd ≠ le := fun w => by rw [w, hle] at ndd; cases ndd
          -- ends.reverse()
          refine ⟨_, rfl, .inl ⟨rfl, _, SqL.of hle3⟩, le, _, rfl, rfl, hle3, ?_⟩
          have hle4 : (upd H3 le (.lst (es.map V.str).reverse)) le = some (.lst (es.reverse.map V.str)) := by
            rw [upd_same, List.map_reverse]
          have dr4 : Dr (upd H3 le (.lst (es.map V.str).reverse)) ra pa xs c := ⟨dr3.ra.updL hle3, dr3.pa.updL hle3, dr3.l3, dr3.cl, dr3.nm, dr3.nd⟩
          have ld4 : Lp (upd H3 le (.lst (es.map V.str).reverse)) dd (sents fw (gls src ys)) := ld.upd hle3 nde
          have R4 : Rng (upd H3 le (.lst (es.map V.str).reverse)) r := R3.upd2 ner
          have b4 : But r H (upd H3 le (.lst (es.map V.str).reverse)) := fun b' o nb e => by
            rw [upd_ne (fun w => by rw [w, nle0] at e; cases e)]
            exact b3 b' o nb e
          generalize upd H3 le (.lst (es.map V.str).reverse) = H4 at hle4 dr4 ld4 R4 b4 ⊢
          -- kept
          refine ⟨_, rfl, le, _, rfl, .inl (SqL.of hle4), fun kp nk => ?_⟩
          generalize hg : upd _ kp _ = H5
          obtain ⟨s5, gk⟩ := upd_new hg nk
          clear hg
          have rl : es.reverse.length ≤ 20 := by
            rw [List.length_reverse]
            omega
          have np0 : ∀ g ∈ gls src ys, Nm g := fun g hg => en g (perm.mem_iff.mp (gls_mem hg))
          have ng : ∀ q ∈ sents fw (gls src ys), Nm q.1 ∧ (q.2 = 0 ∨ q.2 = 1) := fun q hq => by
            obtain ⟨g, mg, e⟩ := List.mem_filterMap.mp hq
            unfold sentTo at e
            rcases fwv g with w | w | w <;> rw [w] at e
            · cases e
            · injection e with e
              rw [← e]
              exact ⟨np0 g mg, .inl rfl⟩
            · injection e with e
              rw [← e]
              exact ⟨np0 g mg, .inr rfl⟩
          have lg : (sents fw (gls src ys)).length ≤ 14 := by
            have a1 := List.length_filterMap_le (sentTo fw) (gls src ys)
            have a2 := gls_len src ys
            rw [perm.length_eq] at a2
            unfold sents
            omega
          have FP := tam.fits (gd_prs ng lg).tm (Nat.le_trans (gd_prs ng lg).dp (by decide))
          have shn := sh_ends (xs := es.reverse) fun x hx => en x (List.mem_reverse.mp hx)
          -- told
          refine ⟨_, rfl, _, rfl, _, rfl, _, rfl, _, rfl, _, rfl, rfl, rfl, ?_⟩
          show spForw K C U [.ref le, optV src, .int b, .ref ra, .str (xs.getD j ""), .str ph] _ _ _
          refine use_forw (dr4.same s5) (by omega) jl (.inl (SqL.of (s5 _ _ hle4))) rl fun ys1 H6 L1 q1 r1 s6 nL1 lp1 => ?_
          have ey := sort_uniq (q1.trans (List.reverse_perm es)) r1 perm srt
          subst ey
          rw [← hfw] at lp1
          generalize sents fw (gls src ys1) = ps at ld4 ng lg FP lp1
          have s46 := s5.trans s6
          refine ⟨_, rfl, _, prsD ps, rfl, lp1.dn, FP.1, FP.2.1, FP.2.2, ?_⟩
          refine ⟨_, rfl, _, prsD ps, rfl, (ld4.same s46).dn, FP.1, FP.2.1, FP.2.2, ?_⟩
          refine ⟨rfl, _, rfl, ?_⟩
          generalize PyData.shown (prsD ps) = sh0
          refine iteNS rfl ?_
          refine ⟨_, rfl, _, rfl, _, _, (sq_dn (s46 _ _ hle4)).dp shn.1, (sq_dn (s6 _ _ gk)).dp shn.1, shn.2, shn.2, _, rfl, ?_⟩
          rw [SeqAt.eqv_refl _ shn.1]
          refine iteF ?_
          -- early
          refine ⟨_, rfl, _, rfl, _, rfl, _, rfl, _, rfl, rfl, rfl, ?_⟩
          show spForw K C U [.ref le, optV src, .int b, .ref ra, .str (xs.getD j ""), .str "reserved"] _ _ _
          refine use_forw (dr4.same s46) (by omega) jl (.inl (SqL.of (s46 _ _ hle4))) rl fun ys2 H7 L2 q2 r2 s7 nL2 lp2 => ?_
          have ey := sort_uniq q2 r2 q1 r1
          subst ey
          rw [early_sents] at lp2
          have s47 := s46.trans s7
          -- plain
          refine ⟨_, rfl, le, es.reverse, rfl, SqL.of (s47 _ _ hle4), by omega, fun ys4 p8 perm4 srt4 np8 => ?_⟩
          have ey := sort_uniq perm4 srt4 q2 r2
          subst ey
          generalize hg : upd _ p8 _ = H8
          obtain ⟨s8, hp8⟩ := upd_new hg np8
          clear hg
          refine ⟨p8, rfl, ⟨_, SqL.of hp8⟩, fun D4 nD => ?_⟩
          refine lc_it (walk_list (K := K) (a := p8) (xs := ys4.map V.str)) (fun i H' => Same H8 H' ∧ ∃ ts : List Addr, H' D4 = some (.lst (ts.map V.ref)) ∧ ts.length ≤ i ∧ PrI H' ts ((gls src (ys4.take i)).map fun g => (g, 0)))
            ⟨same_upd nD, [], upd_same, Nat.le_refl _, trivial⟩ (fun i H' _ h => SqL.of (h.1 _ _ hp8)) ?_ ?_
          · rintro k y HX HY hk ⟨s3, ts, hD, tl, pr⟩ ⟨rfl, hy⟩
            rw [List.getElem?_map] at hy
            obtain ⟨z, hz, rfl⟩ := Option.map_eq_some_iff.mp hy
            rw [List.length_map] at hk
            refine ⟨rfl, ?_⟩
            refine ⟨_, rfl, _, rfl, scal_opt z src, _, rfl, ite2 (fun c8 => ?_) (fun c8 => ?_)⟩
            · refine ⟨_, rfl, (by show 2 ≤ sizeLine; decide), fun t o nt st tz => ?_⟩
              refine ⟨_, st _ _ hD, ?_, same_upd2 (s3.trans st) nD, ts ++ [t], ?_, ?_, ?_⟩
              · rw [List.length_map]
                exact small200 (by omega)
              · rw [upd_same, List.map_append]
                rfl
              · rw [List.length_append]
                show ts.length + 1 ≤ k + 1
                omega
              · rw [gls_yes hz c8, List.map_append]
                exact (pr.same st).snoc_upd (st _ _ hD) tz
            · refine ⟨s3, ts, hD, by omega, ?_⟩
              rw [gls_no hz c8]
              exact pr
          rintro H9 ⟨s9, ts, hD, tl, pr⟩
          rw [List.length_map, List.take_of_length_le (Nat.le_refl _)] at pr
          have l9 : Lp H9 D4 ((gls src ys4).map fun g => (g, 0)) := ⟨ts, hD, pr⟩
          have s79 := s8.trans s9
          have ng4 : ∀ q ∈ (gls src ys4).map (fun g => (g, (0 : Int))), Nm q.1 ∧ (q.2 = 0 ∨ q.2 = 1) := fun q hq => by
            obtain ⟨g, mg, rfl⟩ := List.mem_map.mp hq
            exact ⟨np0 g mg, .inl rfl⟩
          have lg4 : ((gls src ys4).map fun g => (g, (0 : Int))).length ≤ 14 := by
            rw [List.length_map]
            have a2 := gls_len src ys4
            rw [perm4.length_eq, List.length_reverse] at a2
            omega
          have FE := tam.fits (gd_prs ng4 lg4).tm (Nat.le_trans (gd_prs ng4 lg4).dp (by decide))
          have lp2 := lp2.same s79
          generalize (gls src ys4).map (fun g => (g, (0 : Int))) = pe at l9 lp2 FE
          refine ⟨_, rfl, _, prsD pe, rfl, lp2.dn, FE.1, FE.2.1, FE.2.2, ?_⟩
          refine ⟨_, rfl, _, prsD pe, rfl, l9.dn, FE.1, FE.2.1, FE.2.2, rfl, ?_⟩
          rw [decide_eq_true rfl]
          have s49 := s47.trans s79
          exact q _ (b4.trans (But.of s49)) (R4.same s49)

    · obtain ⟨es, e6, en, hle⟩ : ∃ es : List Str, es.length ≤ 6 ∧ (∀ x ∈ es, Nm x) ∧ H17 le = some (.lst (es.map V.str)) := ⟨es0, by omega, en, hle⟩
      generalize H17 = HC at hle dr R b0 ⊢
      -- who, stage
      refine ⟨_, rfl, _, rfl, pa, _, _, .str (xs.getD j ""), rfl, rfl, dr.pa.sq, at_nat (i := j) jl, ?_⟩
      refine ⟨_, rfl, (by show 2 ≤ sizeLine; decide), fun lw nw => ?_⟩
      have new := R.ne nw
      generalize hg : upd _ lw _ = HE1
      obtain ⟨sw, gw⟩ := upd_new hg nw
      clear hg
      refine ⟨r, _, rfl, R.same sw, .inr ⟨lw, _, rfl, new, gw, (by show 0 < 2; decide), (by show 2 ≤ 1000; decide), fun HE u bE RE mu => ?_⟩⟩
      obtain ⟨ph, rfl⟩ : ∃ ph : Str, u = .str ph := by
        simp only [List.mem_cons, List.not_mem_nil, or_false] at mu
        rcases mu with rfl | rfl
        · exact ⟨_, rfl⟩
        · exact ⟨_, rfl⟩
      have hle := bE _ _ ner (sw _ _ hle)
      have dr := (dr.same sw).but (R.same sw) bE
      have b0 := b0.trans ((But.of sw).trans bE)
      have R := RE
      refine ⟨_, _, rfl, ?_⟩
      clear mu gw RE bE sw
      -- origin
      refine ⟨_, rfl, (by show 1 ≤ sizeLine; decide), fun lo no => ?_⟩
      generalize hg : upd _ lo _ = HF1
      obtain ⟨so, go⟩ := upd_new hg no
      clear hg
      refine ⟨_, rfl, lo, le, _, _, rfl, rfl, go, so _ _ hle, (by rw [List.length_map]; exact Nat.le_trans (show 1 + es.length ≤ 20 by omega) (by decide)), fun lp np => ?_⟩
      have nep := (R.same so).ne np
      generalize hg : upd _ lp _ = HF2
      obtain ⟨sp, gp⟩ := upd_new hg np
      clear hg
      have sop := so.trans sp
      refine ⟨r, _, rfl, R.same sop, .inr ⟨lp, _, rfl, nep, gp, (by rw [List.length_append]; show 0 < 1 + _; omega), (by rw [List.length_append, List.length_map]; show 1 + _ ≤ 1000; omega), fun HF u bF RF mu => ?_⟩⟩
      obtain ⟨src, rfl⟩ : ∃ src : Option Str, u = optV src := by
        rcases List.mem_append.mp mu with mu | mu
        · rw [List.mem_singleton.mp mu]
          exact ⟨none, rfl⟩
        · obtain ⟨x, _, rfl⟩ := List.mem_map.mp mu
          exact ⟨some x, rfl⟩
      have hle := bF _ _ ner (sop _ _ hle)
      have dr := (dr.same sop).but (R.same sop) bF
      have b0 := b0.trans ((But.of sop).trans bF)
      have R := RF
      clear mu gp go RF bF so sp sop
      -- mark
      cases src with
      | none =>
        refine ⟨_, rfl, rfl, _, rfl, iteT ?_⟩
        obtain ⟨src, esrc⟩ : ∃ src : Option Str, src = none := ⟨_, rfl⟩
        rw [← esrc]
        have hb : (0 : Int) = 0 ∨ (0 : Int) = 1 := .inl rfl
        clear esrc
        -- due
        obtain ⟨fw, hfw⟩ : ∃ fw : Str → V, fw = fun g => fwd xs c j ph src g 0 := ⟨_, rfl⟩
        have fwv : ∀ g, fw g = .non ∨ fw g = .int 0 ∨ fw g = .int 1 := fun g => by rw [hfw]; exact fwd_val hb
        refine ⟨(by show 0 ≤ sizeLine; decide), fun d0 nd0 => ?_⟩
        generalize hg : upd _ d0 _ = H1
        obtain ⟨s1, g0⟩ := upd_new hg nd0
        clear hg
        have hle1 := s1 _ _ hle
        refine ⟨_, rfl, le, es, rfl, SqL.of hle1, by omega, fun ys p perm srt np => ?_⟩
        generalize hg : upd _ p _ = H2
        obtain ⟨s2, hp⟩ := upd_new hg np
        clear hg
        have s12 := s1.trans s2
        have yl : ys.length ≤ 20 := by
          rw [perm.length_eq]
          omega
        refine ⟨p, rfl, ⟨_, SqL.of hp⟩, ?_⟩
        refine for_it (walk_list (K := K) (a := p) (xs := ys.map V.str)) (fun i σ H' => (∃ dd a12 a13, σ = [some (.ref r), some (.ref L), some (.ref pa), some (.ref bs), some (.ref ra), some (.int (j : Int)), some (.ref le), some (.str (xs.getD j "")), some (.str ph), some (optV src), some (.int 0), some (.ref dd), a12, a13, none, none, none, none] ∧ Same H2 H' ∧ HF dd = none ∧ Lp H' dd (sents fw (gls src (ys.take i)))))
          ⟨_, _, _, rfl, Same.refl _, nd0, [], s2 _ _ g0, trivial⟩ (fun _ _ _ _ h => by obtain ⟨_, _, _, _, h2, _⟩ := h; exact SqL.of (h2 _ _ hp)) ?_ ?_
        · rintro k y σ H3 H4 hk ⟨dd, a12, a13, rfl, s3, ndd, ld⟩ ⟨rfl, hy⟩
          rw [List.getElem?_map] at hy
          obtain ⟨z, hz, rfl⟩ := Option.map_eq_some_iff.mp hy
          have s03 := s12.trans s3
          refine ⟨_, rfl, _, rfl, scal_opt z src, _, rfl, ite2 (fun c8 => ?_) (fun c8 => ?_)⟩
          · refine ⟨_, rfl, _, rfl, _, rfl, _, rfl, _, rfl, _, rfl, ?_⟩
            dsimp only [tNil]
            refine use_fwd (j := j) (ph := ph) (src := src) (g := z) (b := 0) (dr.same s03) (by omega) jl fun H5 s5 => ?_
            have ef : fwd xs c j ph src z 0 = fw z := by rw [hfw]
            rw [ef]
            refine ⟨_, rfl, _, rfl, _, rfl, (by show 2 ≤ sizeLine; decide), fun t o nt st tz => ?_⟩
            generalize upd _ t o = H6 at st tz ⊢
            refine ⟨(by show 1 ≤ sizeLine; decide), fun l6 n6 => ?_⟩
            generalize hg : upd _ l6 _ = H7
            obtain ⟨s7, g7⟩ := upd_new hg n6
            clear hg
            obtain ⟨ts, hdd, pr⟩ := ld
            have hdd := s7 _ _ (st _ _ (s5 _ _ hdd))
            have pr := ((pr.same s5).same st).same s7
            have tz := tz.same s7
            have tl : ts.length ≤ 20 := by
              rw [PrI.len pr]
              have a1 := List.length_filterMap_le (sentTo fw) (gls src (ys.take k))
              have a2 := gls_len src (ys.take k)
              rw [List.length_take] at a2
              unfold sents
              omega
            refine ⟨_, rfl, rfl, .inr ⟨_, rfl, l6, _, _, rfl, rfl, g7, ?_, ?_, ?_, fun l8 n8 => ?_⟩⟩
            · split <;> decide
            · split <;> decide
            · split <;> first
                | exact (show 1 * 1 ≤ sizeLine by decide)
                | exact (show 1 * 0 ≤ sizeLine by decide)
            generalize hg : upd _ l8 _ = H8
            obtain ⟨s8, g8⟩ := upd_new hg n8
            clear hg
            refine ⟨dd, l8, _, _, rfl, rfl, s8 _ _ hdd, g8, ?_, fun l9 n9 => ?_⟩
            · rw [List.length_map]
              refine Nat.le_trans (m := 40) ?_ (by decide)
              have : ((List.replicate (if (!decide (fw z = V.non)) = true then (1 : Int) else 0).toNat [V.ref t]).flatten).length ≤ 1 := by
                split <;> first
                  | exact (show 0 ≤ 1 by decide)
                  | exact (show 1 ≤ 1 by decide)
              omega
            have nl9 : HF l9 = none := by
              cases w : HF l9 with
              | none => rfl
              | some o =>
                rw [(s03.trans (s5.trans (st.trans (s7.trans s8)))) _ _ w] at n9
                cases n9
            generalize hg : upd _ l9 _ = H9
            obtain ⟨s9, g9⟩ := upd_new hg n9
            clear hg
            have s39 := s5.trans (st.trans (s7.trans (s8.trans s9)))
            have pr := (pr.same s8).same s9
            have tz := (tz.same s8).same s9
            refine ⟨l9, _, _, rfl, s3.trans s39, nl9, ?_⟩
            rw [gls_yes hz c8]
            rcases fwv z with w | w | w
            · rw [w] at g9
              refine ⟨ts, ?_, ?_⟩
              · rw [g9]
                show some (HO.lst (ts.map V.ref ++ [])) = _
                rw [List.append_nil]
              · have e : sents fw (gls src (ys.take k) ++ [z]) = sents fw (gls src (ys.take k)) := by
                  unfold sents
                  rw [List.filterMap_append]
                  show _ ++ List.filterMap (sentTo fw) [z] = _
                  rw [List.filterMap_cons_none (by unfold sentTo; rw [w]), List.filterMap_nil, List.append_nil]
                rw [e]
                exact pr
            · rw [w] at g9 tz
              refine ⟨ts ++ [t], ?_, ?_⟩
              · rw [g9, List.map_append]
                rfl
              · have e : sents fw (gls src (ys.take k) ++ [z]) = sents fw (gls src (ys.take k)) ++ [(z, 0)] := by
                  unfold sents
                  rw [List.filterMap_append]
                  show _ ++ List.filterMap (sentTo fw) [z] = _
                  rw [List.filterMap_cons_some (b := (z, 0)) (by unfold sentTo; rw [w]), List.filterMap_nil]
                rw [e]
                exact prI_snoc tz pr
            · rw [w] at g9 tz
              refine ⟨ts ++ [t], ?_, ?_⟩
              · rw [g9, List.map_append]
                rfl
              · have e : sents fw (gls src (ys.take k) ++ [z]) = sents fw (gls src (ys.take k)) ++ [(z, 1)] := by
                  unfold sents
                  rw [List.filterMap_append]
                  show _ ++ List.filterMap (sentTo fw) [z] = _
                  rw [List.filterMap_cons_some (b := (z, 1)) (by unfold sentTo; rw [w]), List.filterMap_nil]
                rw [e]
                exact prI_snoc tz pr
          · refine ⟨dd, _, _, rfl, s3, ndd, ?_⟩
            rw [gls_no hz c8]
            exact ld
        rintro σ H3 ⟨dd, a12, a13, rfl, s3, ndd, ld⟩
        rw [List.length_map, List.take_of_length_le (Nat.le_refl _)] at ld
        have s03 := s12.trans s3
        have hle3 := s03 _ _ hle
        have dr3 := dr.same s03
        have R3 := R.same s03
        have b3 := b0.trans (But.of s03)
        have nde : dd ≠ le := fun w => by rw [w, hle] at ndd; cases ndd
        -- ends.reverse()
        refine ⟨_, rfl, .inl ⟨rfl, _, SqL.of hle3⟩, le, _, rfl, rfl, hle3, ?_⟩
        have hle4 : (upd H3 le (.lst (es.map V.str).reverse)) le = some (.lst (es.reverse.map V.str)) := by
          rw [upd_same, List.map_reverse]
        have dr4 : Dr (upd H3 le (.lst (es.map V.str).reverse)) ra pa xs c := ⟨dr3.ra.updL hle3, dr3.pa.updL hle3, dr3.l3, dr3.cl, dr3.nm, dr3.nd⟩
        have ld4 : Lp (upd H3 le (.lst (es.map V.str).reverse)) dd (sents fw (gls src ys)) := ld.upd hle3 nde
        have R4 : Rng (upd H3 le (.lst (es.map V.str).reverse)) r := R3.upd2 ner
        have b4 : But r H (upd H3 le (.lst (es.map V.str).reverse)) := fun b' o nb e => by
          rw [upd_ne (fun w => by rw [w, nle0] at e; cases e)]
          exact b3 b' o nb e
        generalize upd H3 le (.lst (es.map V.str).reverse) = H4 at hle4 dr4 ld4 R4 b4 ⊢
        -- kept
        refine ⟨_, rfl, le, _, rfl, .inl (SqL.of hle4), fun kp nk => ?_⟩
        generalize hg : upd _ kp _ = H5
        obtain ⟨s5, gk⟩ := upd_new hg nk
        clear hg
        have rl : es.reverse.length ≤ 20 := by
          rw [List.length_reverse]
          omega
        have np0 : ∀ g ∈ gls src ys, Nm g := fun g hg => en g (perm.mem_iff.mp (gls_mem hg))
        have ng : ∀ q ∈ sents fw (gls src ys), Nm q.1 ∧ (q.2 = 0 ∨ q.2 = 1) := fun q hq => by
          obtain ⟨g, mg, e⟩ := List.mem_filterMap.mp hq
          unfold sentTo at e
          rcases fwv g with w | w | w <;> rw [w] at e
          · cases e
          · injection e with e
            rw [← e]
            exact ⟨np0 g mg, .inl rfl⟩
          · injection e with e
            rw [← e]
            exact ⟨np0 g mg, .inr rfl⟩
        have lg : (sents fw (gls src ys)).length ≤ 14 := by
          have a1 := List.length_filterMap_le (sentTo fw) (gls src ys)
          have a2 := gls_len src ys
          rw [perm.length_eq] at a2
          unfold sents
          omega
        have FP := tam.fits (gd_prs ng lg).tm (Nat.le_trans (gd_prs ng lg).dp (by decide))
        have shn := sh_ends (xs := es.reverse) fun x hx => en x (List.mem_reverse.mp hx)
        -- told
        refine ⟨_, rfl, _, rfl, _, rfl, _, rfl, _, rfl, _, rfl, rfl, rfl, ?_⟩
        show spForw K C U [.ref le, optV src, .int 0, .ref ra, .str (xs.getD j ""), .str ph] _ _ _
        refine use_forw (dr4.same s5) (by omega) jl (.inl (SqL.of (s5 _ _ hle4))) rl fun ys1 H6 L1 q1 r1 s6 nL1 lp1 => ?_
        have ey := sort_uniq (q1.trans (List.reverse_perm es)) r1 perm srt
        subst ey
        rw [← hfw] at lp1
        generalize sents fw (gls src ys1) = ps at ld4 ng lg FP lp1
        have s46 := s5.trans s6
        refine ⟨_, rfl, _, prsD ps, rfl, lp1.dn, FP.1, FP.2.1, FP.2.2, ?_⟩
        refine ⟨_, rfl, _, prsD ps, rfl, (ld4.same s46).dn, FP.1, FP.2.1, FP.2.2, ?_⟩
        refine ⟨rfl, _, rfl, ?_⟩
        generalize PyData.shown (prsD ps) = sh0
        refine iteNS rfl ?_
        refine ⟨_, rfl, _, rfl, _, _, (sq_dn (s46 _ _ hle4)).dp shn.1, (sq_dn (s6 _ _ gk)).dp shn.1, shn.2, shn.2, _, rfl, ?_⟩
        rw [SeqAt.eqv_refl _ shn.1]
        refine iteF ?_
        -- early
        refine ⟨_, rfl, _, rfl, _, rfl, _, rfl, _, rfl, rfl, rfl, ?_⟩
        show spForw K C U [.ref le, optV src, .int 0, .ref ra, .str (xs.getD j ""), .str "reserved"] _ _ _
        refine use_forw (dr4.same s46) (by omega) jl (.inl (SqL.of (s46 _ _ hle4))) rl fun ys2 H7 L2 q2 r2 s7 nL2 lp2 => ?_
        have ey := sort_uniq q2 r2 q1 r1
        subst ey
        rw [early_sents] at lp2
        have s47 := s46.trans s7
        -- plain
        refine ⟨_, rfl, le, es.reverse, rfl, SqL.of (s47 _ _ hle4), by omega, fun ys4 p8 perm4 srt4 np8 => ?_⟩
        have ey := sort_uniq perm4 srt4 q2 r2
        subst ey
        generalize hg : upd _ p8 _ = H8
        obtain ⟨s8, hp8⟩ := upd_new hg np8
        clear hg
        refine ⟨p8, rfl, ⟨_, SqL.of hp8⟩, fun D4 nD => ?_⟩
        refine lc_it (walk_list (K := K) (a := p8) (xs := ys4.map V.str)) (fun i H' => Same H8 H' ∧ ∃ ts : List Addr, H' D4 = some (.lst (ts.map V.ref)) ∧ ts.length ≤ i ∧ PrI H' ts ((gls src (ys4.take i)).map fun g => (g, 0)))
          ⟨same_upd nD, [], upd_same, Nat.le_refl _, trivial⟩ (fun i H' _ h => SqL.of (h.1 _ _ hp8)) ?_ ?_
        · rintro k y HX HY hk ⟨s3, ts, hD, tl, pr⟩ ⟨rfl, hy⟩
          rw [List.getElem?_map] at hy
          obtain ⟨z, hz, rfl⟩ := Option.map_eq_some_iff.mp hy
          rw [List.length_map] at hk
          refine ⟨rfl, ?_⟩
          refine ⟨_, rfl, _, rfl, scal_opt z src, _, rfl, ite2 (fun c8 => ?_) (fun c8 => ?_)⟩
          · refine ⟨_, rfl, (by show 2 ≤ sizeLine; decide), fun t o nt st tz => ?_⟩
            refine ⟨_, st _ _ hD, ?_, same_upd2 (s3.trans st) nD, ts ++ [t], ?_, ?_, ?_⟩
            · rw [List.length_map]
              exact small200 (by omega)
            · rw [upd_same, List.map_append]
              rfl
            · rw [List.length_append]
              show ts.length + 1 ≤ k + 1
              omega
            · rw [gls_yes hz c8, List.map_append]
              exact (pr.same st).snoc_upd (st _ _ hD) tz
          · refine ⟨s3, ts, hD, by omega, ?_⟩
            rw [gls_no hz c8]
            exact pr
        rintro H9 ⟨s9, ts, hD, tl, pr⟩
        rw [List.length_map, List.take_of_length_le (Nat.le_refl _)] at pr
        have l9 : Lp H9 D4 ((gls src ys4).map fun g => (g, 0)) := ⟨ts, hD, pr⟩
        have s79 := s8.trans s9
        have ng4 : ∀ q ∈ (gls src ys4).map (fun g => (g, (0 : Int))), Nm q.1 ∧ (q.2 = 0 ∨ q.2 = 1) := fun q hq => by
          obtain ⟨g, mg, rfl⟩ := List.mem_map.mp hq
          exact ⟨np0 g mg, .inl rfl⟩
        have lg4 : ((gls src ys4).map fun g => (g, (0 : Int))).length ≤ 14 := by
          rw [List.length_map]
          have a2 := gls_len src ys4
          rw [perm4.length_eq, List.length_reverse] at a2
          omega
        have FE := tam.fits (gd_prs ng4 lg4).tm (Nat.le_trans (gd_prs ng4 lg4).dp (by decide))
        have lp2 := lp2.same s79
        generalize (gls src ys4).map (fun g => (g, (0 : Int))) = pe at l9 lp2 FE
        refine ⟨_, rfl, _, prsD pe, rfl, lp2.dn, FE.1, FE.2.1, FE.2.2, ?_⟩
        refine ⟨_, rfl, _, prsD pe, rfl, l9.dn, FE.1, FE.2.1, FE.2.2, rfl, ?_⟩
        rw [decide_eq_true rfl]
        have s49 := s47.trans s79
        exact q _ (b4.trans (But.of s49)) (R4.same s49)
      | some x =>
        refine ⟨_, rfl, rfl, _, rfl, iteF ?_⟩
        refine ⟨_, rfl, r, 2, rfl, R, by decide, by decide, fun HG b bG RG e0 e1 => ?_⟩
        have hb : b = 0 ∨ b = 1 := by omega
        have hle := bG _ _ ner hle
        have dr := dr.but R bG
        have b0 := b0.trans bG
        have R := RG
        clear bG RG e0 e1
        generalize (some x : Option Str) = src
        generalize HG = HF at hle dr b0 R ⊢
        -- due
        obtain ⟨fw, hfw⟩ : ∃ fw : Str → V, fw = fun g => fwd xs c j ph src g b := ⟨_, rfl⟩
        have fwv : ∀ g, fw g = .non ∨ fw g = .int 0 ∨ fw g = .int 1 := fun g => by rw [hfw]; exact fwd_val hb
        refine ⟨(by show 0 ≤ sizeLine; decide), fun d0 nd0 => ?_⟩
        generalize hg : upd _ d0 _ = H1
        obtain ⟨s1, g0⟩ := upd_new hg nd0
        clear hg
        have hle1 := s1 _ _ hle
        refine ⟨_, rfl, le, es, rfl, SqL.of hle1, by omega, fun ys p perm srt np => ?_⟩
        generalize hg : upd _ p _ = H2
        obtain ⟨s2, hp⟩ := upd_new hg np
        clear hg
        have s12 := s1.trans s2
        have yl : ys.length ≤ 20 := by
          rw [perm.length_eq]
          omega
        refine ⟨p, rfl, ⟨_, SqL.of hp⟩, ?_⟩
        refine for_it (walk_list (K := K) (a := p) (xs := ys.map V.str)) (fun i σ H' => (∃ dd a12 a13, σ = [some (.ref r), some (.ref L), some (.ref pa), some (.ref bs), some (.ref ra), some (.int (j : Int)), some (.ref le), some (.str (xs.getD j "")), some (.str ph), some (optV src), some (.int b), some (.ref dd), a12, a13, none, none, none, none] ∧ Same H2 H' ∧ HF dd = none ∧ Lp H' dd (sents fw (gls src (ys.take i)))))
          ⟨_, _, _, rfl, Same.refl _, nd0, [], s2 _ _ g0, trivial⟩ (fun _ _ _ _ h => by obtain ⟨_, _, _, _, h2, _⟩ := h; exact SqL.of (h2 _ _ hp)) ?_ ?_
        · rintro k y σ H3 H4 hk ⟨dd, a12, a13, rfl, s3, ndd, ld⟩ ⟨rfl, hy⟩
          rw [List.getElem?_map] at hy
          obtain ⟨z, hz, rfl⟩ := Option.map_eq_some_iff.mp hy
          have s03 := s12.trans s3
          refine ⟨_, rfl, _, rfl, scal_opt z src, _, rfl, ite2 (fun c8 => ?_) (fun c8 => ?_)⟩
          · refine ⟨_, rfl, _, rfl, _, rfl, _, rfl, _, rfl, _, rfl, ?_⟩
            dsimp only [tNil]
            refine use_fwd (j := j) (ph := ph) (src := src) (g := z) (b := b) (dr.same s03) (by omega) jl fun H5 s5 => ?_
            have ef : fwd xs c j ph src z b = fw z := by rw [hfw]
            rw [ef]
            refine ⟨_, rfl, _, rfl, _, rfl, (by show 2 ≤ sizeLine; decide), fun t o nt st tz => ?_⟩
            generalize upd _ t o = H6 at st tz ⊢
            refine ⟨(by show 1 ≤ sizeLine; decide), fun l6 n6 => ?_⟩
            generalize hg : upd _ l6 _ = H7
            obtain ⟨s7, g7⟩ := upd_new hg n6
            clear hg
            obtain ⟨ts, hdd, pr⟩ := ld
            have hdd := s7 _ _ (st _ _ (s5 _ _ hdd))
            have pr := ((pr.same s5).same st).same s7
            have tz := tz.same s7
            have tl : ts.length ≤ 20 := by
              rw [PrI.len pr]
              have a1 := List.length_filterMap_le (sentTo fw) (gls src (ys.take k))
              have a2 := gls_len src (ys.take k)
              rw [List.length_take] at a2
              unfold sents
              omega
            refine ⟨_, rfl, rfl, .inr ⟨_, rfl, l6, _, _, rfl, rfl, g7, ?_, ?_, ?_, fun l8 n8 => ?_⟩⟩
            · split <;> decide
            · split <;> decide
            · split <;> first
                | exact (show 1 * 1 ≤ sizeLine by decide)
                | exact (show 1 * 0 ≤ sizeLine by decide)
            generalize hg : upd _ l8 _ = H8
            obtain ⟨s8, g8⟩ := upd_new hg n8
            clear hg
            refine ⟨dd, l8, _, _, rfl, rfl, s8 _ _ hdd, g8, ?_, fun l9 n9 => ?_⟩
            · rw [List.length_map]
              refine Nat.le_trans (m := 40) ?_ (by decide)
              have : ((List.replicate (if (!decide (fw z = V.non)) = true then (1 : Int) else 0).toNat [V.ref t]).flatten).length ≤ 1 := by
                split <;> first
                  | exact (show 0 ≤ 1 by decide)
                  | exact (show 1 ≤ 1 by decide)
              omega
            have nl9 : HF l9 = none := by
              cases w : HF l9 with
              | none => rfl
              | some o =>
                rw [(s03.trans (s5.trans (st.trans (s7.trans s8)))) _ _ w] at n9
                cases n9
            generalize hg : upd _ l9 _ = H9
            obtain ⟨s9, g9⟩ := upd_new hg n9
            clear hg
            have s39 := s5.trans (st.trans (s7.trans (s8.trans s9)))
            have pr := (pr.same s8).same s9
            have tz := (tz.same s8).same s9
            refine ⟨l9, _, _, rfl, s3.trans s39, nl9, ?_⟩
            rw [gls_yes hz c8]
            rcases fwv z with w | w | w
            · rw [w] at g9
              refine ⟨ts, ?_, ?_⟩
              · rw [g9]
                show some (HO.lst (ts.map V.ref ++ [])) = _
                rw [List.append_nil]
              · have e : sents fw (gls src (ys.take k) ++ [z]) = sents fw (gls src (ys.take k)) := by
                  unfold sents
                  rw [List.filterMap_append]
                  show _ ++ List.filterMap (sentTo fw) [z] = _
                  rw [List.filterMap_cons_none (by unfold sentTo; rw [w]), List.filterMap_nil, List.append_nil]
                rw [e]
                exact pr
            · rw [w] at g9 tz
              refine ⟨ts ++ [t], ?_, ?_⟩
              · rw [g9, List.map_append]
                rfl
              · have e : sents fw (gls src (ys.take k) ++ [z]) = sents fw (gls src (ys.take k)) ++ [(z, 0)] := by
                  unfold sents
                  rw [List.filterMap_append]
                  show _ ++ List.filterMap (sentTo fw) [z] = _
                  rw [List.filterMap_cons_some (b := (z, 0)) (by unfold sentTo; rw [w]), List.filterMap_nil]
                rw [e]
                exact prI_snoc tz pr
            · rw [w] at g9 tz
              refine ⟨ts ++ [t], ?_, ?_⟩
              · rw [g9, List.map_append]
                rfl
              · have e : sents fw (gls src (ys.take k) ++ [z]) = sents fw (gls src (ys.take k)) ++ [(z, 1)] := by
                  unfold sents
                  rw [List.filterMap_append]
                  show _ ++ List.filterMap (sentTo fw) [z] = _
                  rw [List.filterMap_cons_some (b := (z, 1)) (by unfold sentTo; rw [w]), List.filterMap_nil]
                rw [e]
                exact prI_snoc tz pr
          · refine ⟨dd, _, _, rfl, s3, ndd, ?_⟩
            rw [gls_no hz c8]
            exact ld
        rintro σ H3 ⟨dd, a12, a13, rfl, s3, ndd, ld⟩
        rw [List.length_map, List.take_of_length_le (Nat.le_refl _)] at ld
        have s03 := s12.trans s3
        have hle3 := s03 _ _ hle
        have dr3 := dr.same s03
        have R3 := R.same s03
        have b3 := b0.trans (But.of s03)
        have nde : dd ≠ le := fun w => by rw [w, hle] at ndd; cases ndd
        -- ends.reverse()
        refine ⟨_, rfl, .inl ⟨rfl, _, SqL.of hle3⟩, le, _, rfl, rfl, hle3, ?_⟩
        have hle4 : (upd H3 le (.lst (es.map V.str).reverse)) le = some (.lst (es.reverse.map V.str)) := by
          rw [upd_same, List.map_reverse]
        have dr4 : Dr (upd H3 le (.lst (es.map V.str).reverse)) ra pa xs c := ⟨dr3.ra.updL hle3, dr3.pa.updL hle3, dr3.l3, dr3.cl, dr3.nm, dr3.nd⟩
        have ld4 : Lp (upd H3 le (.lst (es.map V.str).reverse)) dd (sents fw (gls src ys)) := ld.upd hle3 nde
        have R4 : Rng (upd H3 le (.lst (es.map V.str).reverse)) r := R3.upd2 ner
        have b4 : But r H (upd H3 le (.lst (es.map V.str).reverse)) := fun b' o nb e => by
          rw [upd_ne (fun w => by rw [w, nle0] at e; cases e)]
          exact b3 b' o nb e
        generalize upd H3 le (.lst (es.map V.str).reverse) = H4 at hle4 dr4 ld4 R4 b4 ⊢
        -- kept
        refine ⟨_, rfl, le, _, rfl, .inl (SqL.of hle4), fun kp nk => ?_⟩
        generalize hg : upd _ kp _ = H5
        obtain ⟨s5, gk⟩ := upd_new hg nk
        clear hg
        have rl : es.reverse.length ≤ 20 := by
          rw [List.length_reverse]
          omega
        have np0 : ∀ g ∈ gls src ys, Nm g := fun g hg => en g (perm.mem_iff.mp (gls_mem hg))
        have ng : ∀ q ∈ sents fw (gls src ys), Nm q.1 ∧ (q.2 = 0 ∨ q.2 = 1) := fun q hq => by
          obtain ⟨g, mg, e⟩ := List.mem_filterMap.mp hq
          unfold sentTo at e
          rcases fwv g with w | w | w <;> rw [w] at e
          · cases e
          · injection e with e
            rw [← e]
            exact ⟨np0 g mg, .inl rfl⟩
          · injection e with e
            rw [← e]
            exact ⟨np0 g mg, .inr rfl⟩
        have lg : (sents fw (gls src ys)).length ≤ 14 := by
          have a1 := List.length_filterMap_le (sentTo fw) (gls src ys)
          have a2 := gls_len src ys
          rw [perm.length_eq] at a2
          unfold sents
          omega
        have FP := tam.fits (gd_prs ng lg).tm (Nat.le_trans (gd_prs ng lg).dp (by decide))
        have shn := sh_ends (xs := es.reverse) fun x hx => en x (List.mem_reverse.mp hx)
        -- told
        refine ⟨_, rfl, _, rfl, _, rfl, _, rfl, _, rfl, _, rfl, rfl, rfl, ?_⟩
        show spForw K C U [.ref le, optV src, .int b, .ref ra, .str (xs.getD j ""), .str ph] _ _ _
        refine use_forw (dr4.same s5) (by omega) jl (.inl (SqL.of (s5 _ _ hle4))) rl fun ys1 H6 L1 q1 r1 s6 nL1 lp1 => ?_
        have ey := sort_uniq (q1.trans (List.reverse_perm es)) r1 perm srt
        subst ey
        rw [← hfw] at lp1
        generalize sents fw (gls src ys1) = ps at ld4 ng lg FP lp1
        have s46 := s5.trans s6
        refine ⟨_, rfl, _, prsD ps, rfl, lp1.dn, FP.1, FP.2.1, FP.2.2, ?_⟩
        refine ⟨_, rfl, _, prsD ps, rfl, (ld4.same s46).dn, FP.1, FP.2.1, FP.2.2, ?_⟩
        refine ⟨rfl, _, rfl, ?_⟩
        generalize PyData.shown (prsD ps) = sh0
        refine iteNS rfl ?_
        refine ⟨_, rfl, _, rfl, _, _, (sq_dn (s46 _ _ hle4)).dp shn.1, (sq_dn (s6 _ _ gk)).dp shn.1, shn.2, shn.2, _, rfl, ?_⟩
        rw [SeqAt.eqv_refl _ shn.1]
        refine iteF ?_
        -- early
        refine ⟨_, rfl, _, rfl, _, rfl, _, rfl, _, rfl, rfl, rfl, ?_⟩
        show spForw K C U [.ref le, optV src, .int b, .ref ra, .str (xs.getD j ""), .str "reserved"] _ _ _
        refine use_forw (dr4.same s46) (by omega) jl (.inl (SqL.of (s46 _ _ hle4))) rl fun ys2 H7 L2 q2 r2 s7 nL2 lp2 => ?_
        have ey := sort_uniq q2 r2 q1 r1
        subst ey
        rw [early_sents] at lp2
        have s47 := s46.trans s7
        -- plain
        refine ⟨_, rfl, le, es.reverse, rfl, SqL.of (s47 _ _ hle4), by omega, fun ys4 p8 perm4 srt4 np8 => ?_⟩
        have ey := sort_uniq perm4 srt4 q2 r2
        subst ey
        generalize hg : upd _ p8 _ = H8
        obtain ⟨s8, hp8⟩ := upd_new hg np8
        clear hg
        refine ⟨p8, rfl, ⟨_, SqL.of hp8⟩, fun D4 nD => ?_⟩
        refine lc_it (walk_list (K := K) (a := p8) (xs := ys4.map V.str)) (fun i H' => Same H8 H' ∧ ∃ ts : List Addr, H' D4 = some (.lst (ts.map V.ref)) ∧ ts.length ≤ i ∧ PrI H' ts ((gls src (ys4.take i)).map fun g => (g, 0)))
          ⟨same_upd nD, [], upd_same, Nat.le_refl _, trivial⟩ (fun i H' _ h => SqL.of (h.1 _ _ hp8)) ?_ ?_
        · rintro k y HX HY hk ⟨s3, ts, hD, tl, pr⟩ ⟨rfl, hy⟩
          rw [List.getElem?_map] at hy
          obtain ⟨z, hz, rfl⟩ := Option.map_eq_some_iff.mp hy
          rw [List.length_map] at hk
          refine ⟨rfl, ?_⟩
          refine ⟨_, rfl, _, rfl, scal_opt z src, _, rfl, ite2 (fun c8 => ?_) (fun c8 => ?_)⟩
          · refine ⟨_, rfl, (by show 2 ≤ sizeLine; decide), fun t o nt st tz => ?_⟩
            refine ⟨_, st _ _ hD, ?_, same_upd2 (s3.trans st) nD, ts ++ [t], ?_, ?_, ?_⟩
            · rw [List.length_map]
              exact small200 (by omega)
            · rw [upd_same, List.map_append]
              rfl
            · rw [List.length_append]
              show ts.length + 1 ≤ k + 1
              omega
            · rw [gls_yes hz c8, List.map_append]
              exact (pr.same st).snoc_upd (st _ _ hD) tz
          · refine ⟨s3, ts, hD, by omega, ?_⟩
            rw [gls_no hz c8]
            exact pr
        rintro H9 ⟨s9, ts, hD, tl, pr⟩
        rw [List.length_map, List.take_of_length_le (Nat.le_refl _)] at pr
        have l9 : Lp H9 D4 ((gls src ys4).map fun g => (g, 0)) := ⟨ts, hD, pr⟩
        have s79 := s8.trans s9
        have ng4 : ∀ q ∈ (gls src ys4).map (fun g => (g, (0 : Int))), Nm q.1 ∧ (q.2 = 0 ∨ q.2 = 1) := fun q hq => by
          obtain ⟨g, mg, rfl⟩ := List.mem_map.mp hq
          exact ⟨np0 g mg, .inl rfl⟩
        have lg4 : ((gls src ys4).map fun g => (g, (0 : Int))).length ≤ 14 := by
          rw [List.length_map]
          have a2 := gls_len src ys4
          rw [perm4.length_eq, List.length_reverse] at a2
          omega
        have FE := tam.fits (gd_prs ng4 lg4).tm (Nat.le_trans (gd_prs ng4 lg4).dp (by decide))
        have lp2 := lp2.same s79
        generalize (gls src ys4).map (fun g => (g, (0 : Int))) = pe at l9 lp2 FE
        refine ⟨_, rfl, _, prsD pe, rfl, lp2.dn, FE.1, FE.2.1, FE.2.2, ?_⟩
        refine ⟨_, rfl, _, prsD pe, rfl, l9.dn, FE.1, FE.2.1, FE.2.2, rfl, ?_⟩
        rw [decide_eq_true rfl]
        have s49 := s47.trans s79
        exact q _ (b4.trans (But.of s49)) (R4.same s49)
end
end My

namespace My
open PySem PySem.Spec PyProof.Rows L2 Gy Xl Xs Xt
section
variable {P : Program} {w : World} {K : PySem.W.Frag} {mg : Str → Option Value} {base : Heap} {H : Hp}
def spRight : Sp := fun vs H Q _ => ∃ r : Addr, vs = [.ref r] ∧ Rng H r ∧ ∀ H', But r H H' → Q (.bl true) H'
theorem ok_right {f : Addr} {fd : FuncData} (F : Fun K "_law_right" "_law_right" s_law_right f fd) (G_law_free_right : Fg P w K mg base CX0 9 "_law_free_right" ["_law_pot_here"] spPart) (G_law_relink_right : Fg P w K mg base CX0 9 "_law_relink_right" ["_law_pot_here"] spPart)
    (G_law_refused_right : Fg P w K mg base CX0 10 "_law_refused_right" ["_law_pot_here"] spPart) : FnG P w K mg base CX0 11 f fd ["_law_pot_here"] spRight := by
  refine fun_g0 F sc_law_right (fun {vs H Q E} h => ?_) (fun cdv A outer s H vs Q E gd hr h => ?_)
  · obtain ⟨r, rfl, _⟩ := h
    rfl
  · obtain ⟨r, rfl, R, q⟩ := h
    refine ⟨_, (pss_cons (ps_if (PW.pt (pw_or (pt_not (pt_val (pe_callFg (E := E0) G_law_free_right gd (hr.mono (by decide)) (by rfl) pass0 (pa_cons (pv 0) pa_nil)))) (pw_or1 (pt_not (pt_val (pe_callFg (E := E0) G_law_relink_right gd (hr.mono (by decide)) (by rfl) pass0 (pa_cons (pv 0) pa_nil)))))))
 (pss_one (ps_ret pe_bl))
 pss_nil)
 (pss_one (ps_ret (pe_and (pe_callFg (E := E0) G_law_relink_right gd (hr.mono (by decide)) (by rfl) pass0 (pa_cons (pv 0) pa_nil)) (pe_one (pe_callFg (E := E0) G_law_refused_right gd (hr.mono (by decide)) (by rfl) pass0 (pa_cons (pv 0) pa_nil))))))), ?_⟩
    refine ⟨_, rfl, r, rfl, R, fun H1 b1 R1 => ⟨_, rfl, iteF ?_⟩⟩
    refine ⟨_, rfl, r, rfl, R1, fun H2 b2 R2 => ⟨_, rfl, iteF ?_⟩⟩
    refine ⟨_, rfl, r, rfl, R2, fun H3 b3 R3 => ⟨_, rfl, iteT ?_⟩⟩
    refine ⟨_, rfl, r, rfl, R3, fun H4 b4 R4 => ?_⟩
    exact q _ (((b1.trans b2).trans b3).trans b4)
theorem ok_law {f : Addr} {fd : FuncData} (F : Fun K "law" "law" s_law f fd) (Y : Bn mg) (G_law_pot : Fk P w K mg base CX0 1 "_law_pot" ["_law_script", "_law_k"] (spPot K))
    (G_law_right : Fg P w K mg base CX0 11 "_law_right" ["_law_pot_here"] spRight) : FnG P w K mg base CX0 12 f fd ["_law_script"] (spLaw K) := by
  refine fun_g0 F sc_law (fun {vs H Q E} h => ?_) (fun cdv A outer s H vs Q E gd hr h => ?_)
  · obtain ⟨a, ns, rfl, _⟩ := h
    rfl
  · obtain ⟨a, ns, rfl, hS, hn, q⟩ := h
    refine ⟨_, (pss_one (ps_ret (pe_callB (cr_all rfl) (by rfl) Y.all (by decide +kernel) (pa_cons (pe_lc (own := [("_law_k", 1)]) (g := gName 1) (tt := tYes) rfl sc_law.nd (pi_range1 (by rfl) Y.range (pa_cons (pe_callB (call_max2 rfl) (by rfl) Y.max (by decide +kernel) (pa_cons pe_int (pa_cons (pe_callB (call_min2 rfl) (by rfl) Y.min (by decide +kernel) (pa_cons pe_int (pa_cons (pe_callB call_len_seq (by rfl) Y.len PySem.boot_len (pa_cons (pv 0) pa_nil)) pa_nil))) pa_nil))) pa_nil)) (blkOk_by (N := ["_law_script", "_law_k"]) (sc := defScope s_law) (by decide +kernel)) (fun _ _ _ _ _ => (pg_name (i := 1) sc_law.nd rfl (Or.inl rfl))) (fun _ _ _ _ _ => pts_nil) (fun _ _ _ _ _ => (pe_callFg (E := E0) G_law_right gd hr (by rfl) pass0 (pa_cons (pe_callF G_law_pot (hr.mono (by decide)) (by rfl) pass0 (pa_cons (pv 0) (pa_cons (pv 1) pa_nil))) pa_nil)))) pa_nil)))), ?_⟩
    refine ⟨_, rfl, a, _, rfl, .inl hS, 6, _, rfl, 2, _, rfl, _, rfl, ?_, ?_, fun D1 nD1 => ?_⟩
    · rw [List.length_map]
      split <;> split <;> omega
    · rw [List.length_map]
      split <;> split <;> omega
    generalize hm : (Int.toNat _) = m
    have m6 : m ≤ 6 := by
      rw [List.length_map] at hm
      rw [← hm]
      split <;> split <;> omega
    refine lc_it (walk_range (lo := 0) (n := m)) (fun i H' => Same H H' ∧ H' D1 = some (.lst ((List.replicate i true).map V.bl))) ⟨same_upd nD1, upd_same⟩ (fun _ _ _ _ => trivial) ?_ ?_
    · rintro k y H1 H2 hk ⟨s1, hZ⟩ ⟨rfl, rfl⟩
      refine ⟨rfl, ?_⟩
      dsimp only [tYes]
      refine iteT ?_
      refine ⟨_, rfl, _, rfl, a, ns, k, (by show [V.ref a, V.int (0 + (k : Int))] = _; rw [Int.zero_add]), s1.seq hS, by omega, fun H3 r s3 nr R3 => ?_⟩
      refine ⟨r, rfl, R3, fun H4 b4 => ?_⟩
      have s4 : Same H2 H4 := fun b o e => b4 b o (fun z => by rw [z, nr] at e; cases e) (s3 b o e)
      refine ⟨_, s4 _ _ hZ, ?_, same_upd2 (s1.trans s4) nD1, ?_⟩
      · rw [List.length_map, List.length_replicate]
        exact small200 (by omega)
      · rw [upd_same, List.replicate_succ', List.map_append]
        rfl
    · rintro H1 ⟨s1, hZ⟩
      refine ⟨D1, _, rfl, SqL.of hZ, ?_⟩
      rw [all_true]
      exact q _
end
end My

namespace My
open PySem PySem.Spec PyProof.Rows L2 Gy Xl Xs Xt
theorem xb_mk {K : PySem.W.Frag} {x qual : Str} {st : Stmt} {f : Addr} {fd : FuncData} {ps ks : List Str} {g : List Value → List Value → List Value} {gV : List V → List V → List V} (F : Fun K x qual st f fd)
    (rel : ∀ {vs : List V} {us : List Value} {zs : List V} {ws : List Value}, Vals vs us → Vals zs ws → Vals (gV vs zs) (g us ws))
    (h : ∀ (kV doc pm : Value) (an : Option Addr) (cdv ct : Value) (b : Value) (us ws : List Value), (b :: g us ws).length = ps.length →
      bindArgs (PySem.W.fnOf x qual (defArgs st) (defBody st) (defScope st) .none kV doc pm an cdv ct) ⟨b :: us, ks.zip ws⟩ = pure (ps.zip (b :: g us ws))) : XB K fd ps ks g gV := by
  obtain ⟨oc, od, kV, doc, pm, an, cdv, ct, osl, rfl, lk, hcd⟩ := F.ex
  exact ⟨fun s b us ws _ hl => .of_eq (h kV doc pm an cdv ct b us ws hl), rel⟩
abbrev sI_InvalidRelink : Stmt := inClass (top 2) 0
theorem scI_InvalidRelink : FnScope ["self", "value"] ["self", "value"] (defScope sI_InvalidRelink) := ⟨rfl, rfl, rfl, by decide +kernel, rfl, by decide +kernel, by decide +kernel⟩
theorem raw_InvalidRelink {K : PySem.W.Frag} {c fI : Addr} {od an : Option Addr} {sl : Array (Option Value)} {oc kV dc pm cdv ct : Value}
    (ii : PySem.W.excInitIn K c [.type "ValueError", .type "Exception", .type "BaseException", .type "object"] "ValueError.__new__" = true) (ov : PySem.W.excOver K c [.type "ValueError", .type "Exception", .type "BaseException", .type "object"] = true) (sa : PySem.W.findIn K (.ref c) "__setattr__" = some (some (.builtin "object.__setattr__")))
    (ga : PySem.W.findIn K (.ref c) "__getattribute__" = some (some (.builtin "BaseException.__getattribute__"))) (gg : PySem.W.findIn K (.ref c) "__getattr__" = some none) (ca : PySem.W.findIn K (.ref c) "__class__" = some (some (.builtin "object.__class__")))
    (ex : PySem.W.subIn K (.ref c) (.type "BaseException") = some true) (ob : PySem.W.mroIn K c (.type "object") = some true) (hd : PySem.W.hasDictIn K c = true) (kp : PySem.W.keepIn K (.ref c) = true)
    (ty : PySem.W.typeIn K (.ref c) = some (.type "type")) (ini : PySem.W.findIn K (.ref c) "__init__" = some (some (.ref fI))) (tf : PySem.W.typeIn K (.ref fI) = some (.type "function"))
    (li : K.lookup fI = some ⟨oc, od, .func (PySem.W.fnOf "__init__" "InvalidRelink.__init__" (defArgs sI_InvalidRelink) (defBody sI_InvalidRelink) (defScope sI_InvalidRelink) .none kV dc pm an cdv ct), sl⟩) (ci : PySem.W.codeIn K cdv "InvalidRelink.__init__" = true) (ki : PySem.W.keepIn K (.ref fI) = true)
    (n0 : PySem.W.findIn K (.ref c) "value" = some none) : XCl K c ∧ ∀ (P : Program) (w : World) (mg : Str → Option Value) (base : Heap), mg "InvalidRelink" = some (.ref c) → Rz P w K mg base "InvalidRelink" "value" c := by
  have X : XCl K c := ⟨⟨_, _, _, _, PySem.F.excBase_ValueError, PySem.F.store_ValueError, ii, ov⟩, sa, ga, gg, ca, ex, ob, hd, kp⟩
  refine ⟨X, fun P w mg base gm => ?_⟩
  have F := fun_mk (st := sI_InvalidRelink) li ci ki
  refine ⟨gm, ty, fI, _, ⟨X, ini, tf⟩, ?_, xb_mk F (fun r _ => r) fun _ _ _ _ _ _ b us ws hl => match us, hl with | [_], _ => rfl⟩
  refine F.ok scI_InvalidRelink (fun vs H Q E h => ?_) (fun cdv A outer s H vs Q E hr h => ?_)
  · obtain ⟨a, v, rfl, _⟩ := h
    rfl
  · obtain ⟨a, v, rfl, ha, q⟩ := h
    exact ⟨_, pss_one (ps_xs (pv 0) (pv 1)), v, rfl, .ref a, rfl, a, c, rfl, X, n0, .inl ⟨ha, fun dx n ne => q dx n ne⟩⟩
abbrev sI_UnknownHost : Stmt := inClass (top 3) 0
theorem scI_UnknownHost : FnScope ["self", "host"] ["self", "host"] (defScope sI_UnknownHost) := ⟨rfl, rfl, rfl, by decide +kernel, rfl, by decide +kernel, by decide +kernel⟩
theorem raw_UnknownHost {K : PySem.W.Frag} {c fI : Addr} {od an : Option Addr} {sl : Array (Option Value)} {oc kV dc pm cdv ct : Value}
    (ii : PySem.W.excInitIn K c [.type "LookupError", .type "Exception", .type "BaseException", .type "object"] "LookupError.__new__" = true) (ov : PySem.W.excOver K c [.type "LookupError", .type "Exception", .type "BaseException", .type "object"] = true) (sa : PySem.W.findIn K (.ref c) "__setattr__" = some (some (.builtin "object.__setattr__")))
    (ga : PySem.W.findIn K (.ref c) "__getattribute__" = some (some (.builtin "BaseException.__getattribute__"))) (gg : PySem.W.findIn K (.ref c) "__getattr__" = some none) (ca : PySem.W.findIn K (.ref c) "__class__" = some (some (.builtin "object.__class__")))
    (ex : PySem.W.subIn K (.ref c) (.type "BaseException") = some true) (ob : PySem.W.mroIn K c (.type "object") = some true) (hd : PySem.W.hasDictIn K c = true) (kp : PySem.W.keepIn K (.ref c) = true)
    (ty : PySem.W.typeIn K (.ref c) = some (.type "type")) (ini : PySem.W.findIn K (.ref c) "__init__" = some (some (.ref fI))) (tf : PySem.W.typeIn K (.ref fI) = some (.type "function"))
    (li : K.lookup fI = some ⟨oc, od, .func (PySem.W.fnOf "__init__" "UnknownHost.__init__" (defArgs sI_UnknownHost) (defBody sI_UnknownHost) (defScope sI_UnknownHost) .none kV dc pm an cdv ct), sl⟩) (ci : PySem.W.codeIn K cdv "UnknownHost.__init__" = true) (ki : PySem.W.keepIn K (.ref fI) = true)
    (n0 : PySem.W.findIn K (.ref c) "host" = some none) : XCl K c ∧ ∀ (P : Program) (w : World) (mg : Str → Option Value) (base : Heap), mg "UnknownHost" = some (.ref c) → Rz P w K mg base "UnknownHost" "host" c := by
  have X : XCl K c := ⟨⟨_, _, _, _, PySem.F.excBase_LookupError, PySem.F.store_LookupError, ii, ov⟩, sa, ga, gg, ca, ex, ob, hd, kp⟩
  refine ⟨X, fun P w mg base gm => ?_⟩
  have F := fun_mk (st := sI_UnknownHost) li ci ki
  refine ⟨gm, ty, fI, _, ⟨X, ini, tf⟩, ?_, xb_mk F (fun r _ => r) fun _ _ _ _ _ _ b us ws hl => match us, hl with | [_], _ => rfl⟩
  refine F.ok scI_UnknownHost (fun vs H Q E h => ?_) (fun cdv A outer s H vs Q E hr h => ?_)
  · obtain ⟨a, v, rfl, _⟩ := h
    rfl
  · obtain ⟨a, v, rfl, ha, q⟩ := h
    exact ⟨_, pss_one (ps_xs (pv 0) (pv 1)), v, rfl, .ref a, rfl, a, c, rfl, X, n0, .inl ⟨ha, fun dx n ne => q dx n ne⟩⟩
theorem exm_of {K : PySem.W.Frag} {C D : Addr} {cd : ClassData} {b : Bool} (bP : PySem.W.subIn K (.ref D) (.type "BaseException") = some true) (cl : PySem.W.clsIn K D = some cd) (ty : PySem.W.typeIn K (.ref D) = some (.type "type")) (ss : PySem.W.subIn K (.ref C) (.ref D) = some b) : PySem.W.exmOne K (.ref C) (.ref D) = some b := by
  unfold PySem.W.exmOne
  rw [bP, if_pos (by rfl)]
  show (if ((PySem.W.clsIn K D).isSome && PySem.W.typeIn K (.ref D) == some (.type "type")) = true then PySem.W.subIn K (.ref C) (.ref D) else none) = _
  rw [cl, ty, if_pos (by rfl)]
  exact ss
theorem kit_bt {K : PySem.W.Frag} {C : Addr} {T : String} {b : Bool} (m : PySem.W.kitMeta T = true) (sb : PySem.W.subIn K (.ref C) (.type T) = some b) : PySem.W.kitOne K (.ref C) (.type T) = some b := by
  unfold PySem.W.kitOne
  rw [if_neg (show ¬ ((Value.ref C == Value.type T) = true) from fun z => Value.noConfusion (beq_iff_eq.mp z))]
  show (if PySem.W.kitMeta T = true then PySem.W.subIn K (.ref C) (.type T) else none) = _
  rw [if_pos m]
  exact sb
theorem kit_sub {K : PySem.W.Frag} {C D : Addr} {cd : ClassData} {b : Bool} (ne : C ≠ D) (cl : PySem.W.clsIn K D = some cd) (ty : PySem.W.typeIn K (.ref D) = some (.type "type")) (sb : PySem.W.subIn K (.ref C) (.ref D) = some b) : PySem.W.kitOne K (.ref C) (.ref D) = some b := by
  unfold PySem.W.kitOne
  rw [if_neg (fun z => ne (Value.ref.inj (beq_iff_eq.mp z)))]
  show (if ((PySem.W.clsIn K D).isSome && PySem.W.typeIn K (.ref D) == some (.type "type")) = true then PySem.W.subIn K (.ref C) (.ref D) else none) = _
  rw [cl, ty, if_pos (by rfl)]
  exact sb
theorem all_mk {l : PySem.W.OpenLaw} {w : World} {K : PySem.W.Frag} {h : Heap} {mg : Str → Option Value} {fa f_is_integer_from f_is_index f_is_text_of f_is_host_name f_is_relink_path f_is_cut_of f_is_relink f_check_relink f_position f_end_bit f_forward_bit f_forwards f_law_pot f_law_draw f_law_pick f_law_names f_law_error f_law_refused_right f_law_free_right f_law_relink_right f_law_right f_law c_InvalidRelink c_UnknownHost : Addr} {c_R D_fw : Addr} {cd_R cd_C cd_U : ClassData} {t_kb t_kp : Tok} (X : K.In h) (G : h.Ns mainGlobals mg) (hfa : mg "law" = some (.ref fa))
    {od_is_integer_from od_is_index od_is_text_of od_is_host_name od_is_relink_path od_is_cut_of od_is_relink od_check_relink od_position od_end_bit od_forward_bit od_forwards od_law_pot od_law_draw od_law_pick od_law_names od_law_error od_law_refused_right od_law_free_right od_law_relink_right od_law_right od_law an_is_integer_from an_is_index an_is_text_of an_is_host_name an_is_relink_path an_is_cut_of an_is_relink an_check_relink an_position an_end_bit an_forward_bit an_forwards an_law_pot an_law_draw an_law_pick an_law_names an_law_error an_law_refused_right an_law_free_right an_law_relink_right an_law_right an_law : Option Addr} {sl_is_integer_from sl_is_index sl_is_text_of sl_is_host_name sl_is_relink_path sl_is_cut_of sl_is_relink sl_check_relink sl_position sl_end_bit sl_forward_bit sl_forwards sl_law_pot sl_law_draw sl_law_pick sl_law_names sl_law_error sl_law_refused_right sl_law_free_right sl_law_relink_right sl_law_right sl_law : Array (Option Value)} {oc_is_integer_from oc_is_index oc_is_text_of oc_is_host_name oc_is_relink_path oc_is_cut_of oc_is_relink oc_check_relink oc_position oc_end_bit oc_forward_bit oc_forwards oc_law_pot oc_law_draw oc_law_pick oc_law_names oc_law_error oc_law_refused_right oc_law_free_right oc_law_relink_right oc_law_right oc_law kV_is_integer_from kV_is_index kV_is_text_of kV_is_host_name kV_is_relink_path kV_is_cut_of kV_is_relink kV_check_relink kV_position kV_end_bit kV_forward_bit kV_forwards kV_law_pot kV_law_draw kV_law_pick kV_law_names kV_law_error kV_law_refused_right kV_law_free_right kV_law_relink_right kV_law_right kV_law dc_is_integer_from dc_is_index dc_is_text_of dc_is_host_name dc_is_relink_path dc_is_cut_of dc_is_relink dc_check_relink dc_position dc_end_bit dc_forward_bit dc_forwards dc_law_pot dc_law_draw dc_law_pick dc_law_names dc_law_error dc_law_refused_right dc_law_free_right dc_law_relink_right dc_law_right dc_law pm_is_integer_from pm_is_index pm_is_text_of pm_is_host_name pm_is_relink_path pm_is_cut_of pm_is_relink pm_check_relink pm_position pm_end_bit pm_forward_bit pm_forwards pm_law_pot pm_law_draw pm_law_pick pm_law_names pm_law_error pm_law_refused_right pm_law_free_right pm_law_relink_right pm_law_right pm_law cd_is_integer_from cd_is_index cd_is_text_of cd_is_host_name cd_is_relink_path cd_is_cut_of cd_is_relink cd_check_relink cd_position cd_end_bit cd_forward_bit cd_forwards cd_law_pot cd_law_draw cd_law_pick cd_law_names cd_law_error cd_law_refused_right cd_law_free_right cd_law_relink_right cd_law_right cd_law ct_is_integer_from ct_is_index ct_is_text_of ct_is_host_name ct_is_relink_path ct_is_cut_of ct_is_relink ct_check_relink ct_position ct_end_bit ct_forward_bit ct_forwards ct_law_pot ct_law_draw ct_law_pick ct_law_names ct_law_error ct_law_refused_right ct_law_free_right ct_law_relink_right ct_law_right ct_law : Value}
    {t_LETTERS t_LONGEST_NAME t_SHORTEST_PATH : Tok}
    (a_is_integer_from : PySem.W.nsIn K mainGlobals "is_integer_from" = some (some (.ref f_is_integer_from))) (l_is_integer_from : K.lookup f_is_integer_from = some ⟨oc_is_integer_from, od_is_integer_from, .func (PySem.W.fnOf "is_integer_from" "is_integer_from" (defArgs s_is_integer_from) (defBody s_is_integer_from) (defScope s_is_integer_from) .none kV_is_integer_from dc_is_integer_from pm_is_integer_from an_is_integer_from cd_is_integer_from ct_is_integer_from), sl_is_integer_from⟩) (co_is_integer_from : PySem.W.codeIn K cd_is_integer_from "is_integer_from" = true) (k_is_integer_from : PySem.W.keepIn K (.ref f_is_integer_from) = true)
    (a_is_index : PySem.W.nsIn K mainGlobals "is_index" = some (some (.ref f_is_index))) (l_is_index : K.lookup f_is_index = some ⟨oc_is_index, od_is_index, .func (PySem.W.fnOf "is_index" "is_index" (defArgs s_is_index) (defBody s_is_index) (defScope s_is_index) .none kV_is_index dc_is_index pm_is_index an_is_index cd_is_index ct_is_index), sl_is_index⟩) (co_is_index : PySem.W.codeIn K cd_is_index "is_index" = true) (k_is_index : PySem.W.keepIn K (.ref f_is_index) = true)
    (a_is_text_of : PySem.W.nsIn K mainGlobals "is_text_of" = some (some (.ref f_is_text_of))) (l_is_text_of : K.lookup f_is_text_of = some ⟨oc_is_text_of, od_is_text_of, .func (PySem.W.fnOf "is_text_of" "is_text_of" (defArgs s_is_text_of) (defBody s_is_text_of) (defScope s_is_text_of) .none kV_is_text_of dc_is_text_of pm_is_text_of an_is_text_of cd_is_text_of ct_is_text_of), sl_is_text_of⟩) (co_is_text_of : PySem.W.codeIn K cd_is_text_of "is_text_of" = true) (k_is_text_of : PySem.W.keepIn K (.ref f_is_text_of) = true)
    (a_is_host_name : PySem.W.nsIn K mainGlobals "is_host_name" = some (some (.ref f_is_host_name))) (l_is_host_name : K.lookup f_is_host_name = some ⟨oc_is_host_name, od_is_host_name, .func (PySem.W.fnOf "is_host_name" "is_host_name" (defArgs s_is_host_name) (defBody s_is_host_name) (defScope s_is_host_name) .none kV_is_host_name dc_is_host_name pm_is_host_name an_is_host_name cd_is_host_name ct_is_host_name), sl_is_host_name⟩) (co_is_host_name : PySem.W.codeIn K cd_is_host_name "is_host_name" = true) (k_is_host_name : PySem.W.keepIn K (.ref f_is_host_name) = true)
    (a_is_relink_path : PySem.W.nsIn K mainGlobals "is_relink_path" = some (some (.ref f_is_relink_path))) (l_is_relink_path : K.lookup f_is_relink_path = some ⟨oc_is_relink_path, od_is_relink_path, .func (PySem.W.fnOf "is_relink_path" "is_relink_path" (defArgs s_is_relink_path) (defBody s_is_relink_path) (defScope s_is_relink_path) .none kV_is_relink_path dc_is_relink_path pm_is_relink_path an_is_relink_path cd_is_relink_path ct_is_relink_path), sl_is_relink_path⟩) (co_is_relink_path : PySem.W.codeIn K cd_is_relink_path "is_relink_path" = true) (k_is_relink_path : PySem.W.keepIn K (.ref f_is_relink_path) = true)
    (a_is_cut_of : PySem.W.nsIn K mainGlobals "is_cut_of" = some (some (.ref f_is_cut_of))) (l_is_cut_of : K.lookup f_is_cut_of = some ⟨oc_is_cut_of, od_is_cut_of, .func (PySem.W.fnOf "is_cut_of" "is_cut_of" (defArgs s_is_cut_of) (defBody s_is_cut_of) (defScope s_is_cut_of) .none kV_is_cut_of dc_is_cut_of pm_is_cut_of an_is_cut_of cd_is_cut_of ct_is_cut_of), sl_is_cut_of⟩) (co_is_cut_of : PySem.W.codeIn K cd_is_cut_of "is_cut_of" = true) (k_is_cut_of : PySem.W.keepIn K (.ref f_is_cut_of) = true)
    (a_is_relink : PySem.W.nsIn K mainGlobals "is_relink" = some (some (.ref f_is_relink))) (l_is_relink : K.lookup f_is_relink = some ⟨oc_is_relink, od_is_relink, .func (PySem.W.fnOf "is_relink" "is_relink" (defArgs s_is_relink) (defBody s_is_relink) (defScope s_is_relink) .none kV_is_relink dc_is_relink pm_is_relink an_is_relink cd_is_relink ct_is_relink), sl_is_relink⟩) (co_is_relink : PySem.W.codeIn K cd_is_relink "is_relink" = true) (k_is_relink : PySem.W.keepIn K (.ref f_is_relink) = true)
    (a_check_relink : PySem.W.nsIn K mainGlobals "check_relink" = some (some (.ref f_check_relink))) (l_check_relink : K.lookup f_check_relink = some ⟨oc_check_relink, od_check_relink, .func (PySem.W.fnOf "check_relink" "check_relink" (defArgs s_check_relink) (defBody s_check_relink) (defScope s_check_relink) .none kV_check_relink dc_check_relink pm_check_relink an_check_relink cd_check_relink ct_check_relink), sl_check_relink⟩) (co_check_relink : PySem.W.codeIn K cd_check_relink "check_relink" = true) (k_check_relink : PySem.W.keepIn K (.ref f_check_relink) = true)
    (a_position : PySem.W.nsIn K mainGlobals "position" = some (some (.ref f_position))) (l_position : K.lookup f_position = some ⟨oc_position, od_position, .func (PySem.W.fnOf "position" "position" (defArgs s_position) (defBody s_position) (defScope s_position) .none kV_position dc_position pm_position an_position cd_position ct_position), sl_position⟩) (co_position : PySem.W.codeIn K cd_position "position" = true) (k_position : PySem.W.keepIn K (.ref f_position) = true)
    (a_end_bit : PySem.W.nsIn K mainGlobals "end_bit" = some (some (.ref f_end_bit))) (l_end_bit : K.lookup f_end_bit = some ⟨oc_end_bit, od_end_bit, .func (PySem.W.fnOf "end_bit" "end_bit" (defArgs s_end_bit) (defBody s_end_bit) (defScope s_end_bit) .none kV_end_bit dc_end_bit pm_end_bit an_end_bit cd_end_bit ct_end_bit), sl_end_bit⟩) (co_end_bit : PySem.W.codeIn K cd_end_bit "end_bit" = true) (k_end_bit : PySem.W.keepIn K (.ref f_end_bit) = true)
    (a_forward_bit : PySem.W.nsIn K mainGlobals "forward_bit" = some (some (.ref f_forward_bit))) (l_forward_bit : K.lookup f_forward_bit = some ⟨oc_forward_bit, od_forward_bit, .func (PySem.W.fnOf "forward_bit" "forward_bit" (defArgs s_forward_bit) (defBody s_forward_bit) (defScope s_forward_bit) .none kV_forward_bit dc_forward_bit pm_forward_bit an_forward_bit cd_forward_bit ct_forward_bit), sl_forward_bit⟩) (co_forward_bit : PySem.W.codeIn K cd_forward_bit "forward_bit" = true) (k_forward_bit : PySem.W.keepIn K (.ref f_forward_bit) = true)
    (a_forwards : PySem.W.nsIn K mainGlobals "forwards" = some (some (.ref f_forwards))) (l_forwards : K.lookup f_forwards = some ⟨oc_forwards, od_forwards, .func (PySem.W.fnOf "forwards" "forwards" (defArgs s_forwards) (defBody s_forwards) (defScope s_forwards) .none kV_forwards dc_forwards pm_forwards an_forwards cd_forwards ct_forwards), sl_forwards⟩) (co_forwards : PySem.W.codeIn K cd_forwards "forwards" = true) (k_forwards : PySem.W.keepIn K (.ref f_forwards) = true)
    (a_law_pot : PySem.W.nsIn K mainGlobals "_law_pot" = some (some (.ref f_law_pot))) (l_law_pot : K.lookup f_law_pot = some ⟨oc_law_pot, od_law_pot, .func (PySem.W.fnOf "_law_pot" "_law_pot" (defArgs s_law_pot) (defBody s_law_pot) (defScope s_law_pot) .none kV_law_pot dc_law_pot pm_law_pot an_law_pot cd_law_pot ct_law_pot), sl_law_pot⟩) (co_law_pot : PySem.W.codeIn K cd_law_pot "_law_pot" = true) (k_law_pot : PySem.W.keepIn K (.ref f_law_pot) = true)
    (a_law_draw : PySem.W.nsIn K mainGlobals "_law_draw" = some (some (.ref f_law_draw))) (l_law_draw : K.lookup f_law_draw = some ⟨oc_law_draw, od_law_draw, .func (PySem.W.fnOf "_law_draw" "_law_draw" (defArgs s_law_draw) (defBody s_law_draw) (defScope s_law_draw) .none kV_law_draw dc_law_draw pm_law_draw an_law_draw cd_law_draw ct_law_draw), sl_law_draw⟩) (co_law_draw : PySem.W.codeIn K cd_law_draw "_law_draw" = true) (k_law_draw : PySem.W.keepIn K (.ref f_law_draw) = true)
    (a_law_pick : PySem.W.nsIn K mainGlobals "_law_pick" = some (some (.ref f_law_pick))) (l_law_pick : K.lookup f_law_pick = some ⟨oc_law_pick, od_law_pick, .func (PySem.W.fnOf "_law_pick" "_law_pick" (defArgs s_law_pick) (defBody s_law_pick) (defScope s_law_pick) .none kV_law_pick dc_law_pick pm_law_pick an_law_pick cd_law_pick ct_law_pick), sl_law_pick⟩) (co_law_pick : PySem.W.codeIn K cd_law_pick "_law_pick" = true) (k_law_pick : PySem.W.keepIn K (.ref f_law_pick) = true)
    (a_law_names : PySem.W.nsIn K mainGlobals "_law_names" = some (some (.ref f_law_names))) (l_law_names : K.lookup f_law_names = some ⟨oc_law_names, od_law_names, .func (PySem.W.fnOf "_law_names" "_law_names" (defArgs s_law_names) (defBody s_law_names) (defScope s_law_names) .none kV_law_names dc_law_names pm_law_names an_law_names cd_law_names ct_law_names), sl_law_names⟩) (co_law_names : PySem.W.codeIn K cd_law_names "_law_names" = true) (k_law_names : PySem.W.keepIn K (.ref f_law_names) = true)
    (a_law_error : PySem.W.nsIn K mainGlobals "_law_error" = some (some (.ref f_law_error))) (l_law_error : K.lookup f_law_error = some ⟨oc_law_error, od_law_error, .func (PySem.W.fnOf "_law_error" "_law_error" (defArgs s_law_error) (defBody s_law_error) (defScope s_law_error) .none kV_law_error dc_law_error pm_law_error an_law_error cd_law_error ct_law_error), sl_law_error⟩) (co_law_error : PySem.W.codeIn K cd_law_error "_law_error" = true) (k_law_error : PySem.W.keepIn K (.ref f_law_error) = true)
    (a_law_refused_right : PySem.W.nsIn K mainGlobals "_law_refused_right" = some (some (.ref f_law_refused_right))) (l_law_refused_right : K.lookup f_law_refused_right = some ⟨oc_law_refused_right, od_law_refused_right, .func (PySem.W.fnOf "_law_refused_right" "_law_refused_right" (defArgs s_law_refused_right) (defBody s_law_refused_right) (defScope s_law_refused_right) .none kV_law_refused_right dc_law_refused_right pm_law_refused_right an_law_refused_right cd_law_refused_right ct_law_refused_right), sl_law_refused_right⟩) (co_law_refused_right : PySem.W.codeIn K cd_law_refused_right "_law_refused_right" = true) (k_law_refused_right : PySem.W.keepIn K (.ref f_law_refused_right) = true)
    (a_law_free_right : PySem.W.nsIn K mainGlobals "_law_free_right" = some (some (.ref f_law_free_right))) (l_law_free_right : K.lookup f_law_free_right = some ⟨oc_law_free_right, od_law_free_right, .func (PySem.W.fnOf "_law_free_right" "_law_free_right" (defArgs s_law_free_right) (defBody s_law_free_right) (defScope s_law_free_right) .none kV_law_free_right dc_law_free_right pm_law_free_right an_law_free_right cd_law_free_right ct_law_free_right), sl_law_free_right⟩) (co_law_free_right : PySem.W.codeIn K cd_law_free_right "_law_free_right" = true) (k_law_free_right : PySem.W.keepIn K (.ref f_law_free_right) = true)
    (a_law_relink_right : PySem.W.nsIn K mainGlobals "_law_relink_right" = some (some (.ref f_law_relink_right))) (l_law_relink_right : K.lookup f_law_relink_right = some ⟨oc_law_relink_right, od_law_relink_right, .func (PySem.W.fnOf "_law_relink_right" "_law_relink_right" (defArgs s_law_relink_right) (defBody s_law_relink_right) (defScope s_law_relink_right) .none kV_law_relink_right dc_law_relink_right pm_law_relink_right an_law_relink_right cd_law_relink_right ct_law_relink_right), sl_law_relink_right⟩) (co_law_relink_right : PySem.W.codeIn K cd_law_relink_right "_law_relink_right" = true) (k_law_relink_right : PySem.W.keepIn K (.ref f_law_relink_right) = true)
    (a_law_right : PySem.W.nsIn K mainGlobals "_law_right" = some (some (.ref f_law_right))) (l_law_right : K.lookup f_law_right = some ⟨oc_law_right, od_law_right, .func (PySem.W.fnOf "_law_right" "_law_right" (defArgs s_law_right) (defBody s_law_right) (defScope s_law_right) .none kV_law_right dc_law_right pm_law_right an_law_right cd_law_right ct_law_right), sl_law_right⟩) (co_law_right : PySem.W.codeIn K cd_law_right "_law_right" = true) (k_law_right : PySem.W.keepIn K (.ref f_law_right) = true)
    (a_law : PySem.W.nsIn K mainGlobals "law" = some (some (.ref f_law))) (l_law : K.lookup f_law = some ⟨oc_law, od_law, .func (PySem.W.fnOf "law" "law" (defArgs s_law) (defBody s_law) (defScope s_law) .none kV_law dc_law pm_law an_law cd_law ct_law), sl_law⟩) (co_law : PySem.W.codeIn K cd_law "law" = true) (k_law : PySem.W.keepIn K (.ref f_law) = true)
    (v_LETTERS : PySem.W.nsIn K mainGlobals "LETTERS" = some (some (.str LET t_LETTERS)))
    (v_LONGEST_NAME : PySem.W.nsIn K mainGlobals "LONGEST_NAME" = some (some (.int 8 t_LONGEST_NAME)))
    (v_SHORTEST_PATH : PySem.W.nsIn K mainGlobals "SHORTEST_PATH" = some (some (.int 3 t_SHORTEST_PATH)))
    (z_len : PySem.W.nsIn K mainGlobals "len" = some none)
    (z_range : PySem.W.nsIn K mainGlobals "range" = some none)
    (z_abs : PySem.W.nsIn K mainGlobals "abs" = some none)
    (z_max : PySem.W.nsIn K mainGlobals "max" = some none)
    (z_min : PySem.W.nsIn K mainGlobals "min" = some none)
    (z_divmod : PySem.W.nsIn K mainGlobals "divmod" = some none)
    (z_isinstance : PySem.W.nsIn K mainGlobals "isinstance" = some none)
    (z_str : PySem.W.nsIn K mainGlobals "str" = some none)
    (z_int : PySem.W.nsIn K mainGlobals "int" = some none)
    (z_bool : PySem.W.nsIn K mainGlobals "bool" = some none)
    (z_tuple : PySem.W.nsIn K mainGlobals "tuple" = some none)
    (z_list : PySem.W.nsIn K mainGlobals "list" = some none)
    (z_set : PySem.W.nsIn K mainGlobals "set" = some none)
    (z_dict : PySem.W.nsIn K mainGlobals "dict" = some none)
    (z_all : PySem.W.nsIn K mainGlobals "all" = some none)
    (z_any : PySem.W.nsIn K mainGlobals "any" = some none)
    (z_repr : PySem.W.nsIn K mainGlobals "repr" = some none)
    (z_sorted : PySem.W.nsIn K mainGlobals "sorted" = some none)
    (z_enumerate : PySem.W.nsIn K mainGlobals "enumerate" = some none)
    (z_zip : PySem.W.nsIn K mainGlobals "zip" = some none)
    (e_InvalidRelink : PySem.W.nsIn K mainGlobals "InvalidRelink" = some (some (.ref c_InvalidRelink))) (S_InvalidRelink : XCl K c_InvalidRelink ∧ ∀ (P : Program) (w : World) (mg : Str → Option Value) (base : Heap), mg "InvalidRelink" = some (.ref c_InvalidRelink) → Rz P w K mg base "InvalidRelink" "value" c_InvalidRelink)
    (e_UnknownHost : PySem.W.nsIn K mainGlobals "UnknownHost" = some (some (.ref c_UnknownHost))) (S_UnknownHost : XCl K c_UnknownHost ∧ ∀ (P : Program) (w : World) (mg : Str → Option Value) (base : Heap), mg "UnknownHost" = some (.ref c_UnknownHost) → Rz P w K mg base "UnknownHost" "host" c_UnknownHost)
    (e_R : PySem.W.nsIn K mainGlobals "RelinkTreeError" = some (some (.ref c_R)))
    (z_LE : PySem.W.nsIn K mainGlobals "LookupError" = some none)
    (kv_fw : kV_forwards = .ref D_fw)
    (kd_src : PySem.W.nsIn K D_fw "source" = some (some .none))
    (kd_bit : PySem.W.nsIn K D_fw "bit" = some (some (.int 0 t_kb)))
    (kd_rel : PySem.W.nsIn K D_fw "relink" = some (some .none))
    (kd_host : PySem.W.nsIn K D_fw "host" = some (some .none))
    (kd_ph : PySem.W.nsIn K D_fw "phase" = some (some (.str "reserved" t_kp)))
    (cg : PySem.W.specialIn K (.builtin "object.__class__") "__get__" = some (some (.builtin "getset_descriptor.__get__")))
    (ct : PySem.W.takesIn K (.builtin "object.__class__") = some true)
    (cl_R : PySem.W.clsIn K c_R = some cd_R)
    (tP_R : PySem.W.typeIn K (.ref c_R) = some (.type "type"))
    (bP_C : PySem.W.subIn K (.ref c_InvalidRelink) (.type "BaseException") = some true)
    (iP_C : PySem.W.clsIn K c_InvalidRelink = some cd_C)
    (tP_C : PySem.W.typeIn K (.ref c_InvalidRelink) = some (.type "type"))
    (bP_U : PySem.W.subIn K (.ref c_UnknownHost) (.type "BaseException") = some true)
    (iP_U : PySem.W.clsIn K c_UnknownHost = some cd_U)
    (tP_U : PySem.W.typeIn K (.ref c_UnknownHost) = some (.type "type"))
    (s_CC : PySem.W.subIn K (.ref c_InvalidRelink) (.ref c_InvalidRelink) = some true)
    (s_UC : PySem.W.subIn K (.ref c_UnknownHost) (.ref c_InvalidRelink) = some false)
    (s_UU : PySem.W.subIn K (.ref c_UnknownHost) (.ref c_UnknownHost) = some true)
    (s_CR : PySem.W.subIn K (.ref c_InvalidRelink) (.ref c_R) = some true)
    (ne_CR : c_InvalidRelink ≠ c_R)
    (s_UR : PySem.W.subIn K (.ref c_UnknownHost) (.ref c_R) = some false)
    (ne_UR : c_UnknownHost ≠ c_R)
    (s_CL : PySem.W.subIn K (.ref c_InvalidRelink) (.type "LookupError") = some false)
    (s_UL : PySem.W.subIn K (.ref c_UnknownHost) (.type "LookupError") = some true)
    (f_C : PySem.W.findIn K (.ref c_InvalidRelink) "value" = some none)
    (f_U : PySem.W.findIn K (.ref c_UnknownHost) "host" = some none) :
    ∃ fd : FuncData, (∀ (s : Shared) (v : Value), BindsTo s fd ⟨[v], []⟩ [("_law_script", v)]) ∧ ∀ base : Heap, K.In base → base.Ns mainGlobals mg → FnG l.prog w K mg base CX0 12 fa fd ["_law_script"] (spLaw K) := by
  have e := hfa.symm.trans (PySem.W.mg_of X G a_law)
  cases e
  subst kv_fw
  have F_is_integer_from := fun_mk (st := s_is_integer_from) l_is_integer_from co_is_integer_from k_is_integer_from
  have b_is_integer_from := F_is_integer_from.binds (ps := ["value", "least"]) fun _ _ _ _ _ _ us hl => match us, hl with | [_, _], _ => rfl
  have m_is_integer_from := PySem.W.mg_of X G a_is_integer_from
  have F_is_index := fun_mk (st := s_is_index) l_is_index co_is_index k_is_index
  have b_is_index := F_is_index.binds (ps := ["value", "size"]) fun _ _ _ _ _ _ us hl => match us, hl with | [_, _], _ => rfl
  have m_is_index := PySem.W.mg_of X G a_is_index
  have F_is_text_of := fun_mk (st := s_is_text_of) l_is_text_of co_is_text_of k_is_text_of
  have b_is_text_of := F_is_text_of.binds (ps := ["value", "characters", "longest"]) fun _ _ _ _ _ _ us hl => match us, hl with | [_, _, _], _ => rfl
  have m_is_text_of := PySem.W.mg_of X G a_is_text_of
  have F_is_host_name := fun_mk (st := s_is_host_name) l_is_host_name co_is_host_name k_is_host_name
  have b_is_host_name := F_is_host_name.binds (ps := ["value"]) fun _ _ _ _ _ _ us hl => match us, hl with | [_], _ => rfl
  have m_is_host_name := PySem.W.mg_of X G a_is_host_name
  have F_is_relink_path := fun_mk (st := s_is_relink_path) l_is_relink_path co_is_relink_path k_is_relink_path
  have b_is_relink_path := F_is_relink_path.binds (ps := ["value"]) fun _ _ _ _ _ _ us hl => match us, hl with | [_], _ => rfl
  have m_is_relink_path := PySem.W.mg_of X G a_is_relink_path
  have F_is_cut_of := fun_mk (st := s_is_cut_of) l_is_cut_of co_is_cut_of k_is_cut_of
  have b_is_cut_of := F_is_cut_of.binds (ps := ["path", "value"]) fun _ _ _ _ _ _ us hl => match us, hl with | [_, _], _ => rfl
  have m_is_cut_of := PySem.W.mg_of X G a_is_cut_of
  have F_is_relink := fun_mk (st := s_is_relink) l_is_relink co_is_relink k_is_relink
  have b_is_relink := F_is_relink.binds (ps := ["value"]) fun _ _ _ _ _ _ us hl => match us, hl with | [_], _ => rfl
  have m_is_relink := PySem.W.mg_of X G a_is_relink
  have F_check_relink := fun_mk (st := s_check_relink) l_check_relink co_check_relink k_check_relink
  have b_check_relink := F_check_relink.binds (ps := ["value"]) fun _ _ _ _ _ _ us hl => match us, hl with | [_], _ => rfl
  have m_check_relink := PySem.W.mg_of X G a_check_relink
  have F_position := fun_mk (st := s_position) l_position co_position k_position
  have b_position := F_position.binds (ps := ["relink", "host"]) fun _ _ _ _ _ _ us hl => match us, hl with | [_, _], _ => rfl
  have m_position := PySem.W.mg_of X G a_position
  have F_end_bit := fun_mk (st := s_end_bit) l_end_bit co_end_bit k_end_bit
  have b_end_bit := F_end_bit.binds (ps := ["is_over_new_link", "may_cross"]) fun _ _ _ _ _ _ us hl => match us, hl with | [_, _], _ => rfl
  have m_end_bit := PySem.W.mg_of X G a_end_bit
  have F_forward_bit := fun_mk (st := s_forward_bit) l_forward_bit co_forward_bit k_forward_bit
  have b_forward_bit := F_forward_bit.binds (ps := ["relink", "host", "phase", "source", "goal", "bit"]) fun _ _ _ _ _ _ us hl => match us, hl with | [_, _, _, _, _, _], _ => rfl
  have m_forward_bit := PySem.W.mg_of X G a_forward_bit
  have F_forwards := fun_mk (st := s_forwards) l_forwards co_forwards k_forwards
  have m_forwards := PySem.W.mg_of X G a_forwards
  have F_law_pot := fun_mk (st := s_law_pot) l_law_pot co_law_pot k_law_pot
  have b_law_pot := F_law_pot.binds (ps := ["_law_script", "_law_k"]) fun _ _ _ _ _ _ us hl => match us, hl with | [_, _], _ => rfl
  have m_law_pot := PySem.W.mg_of X G a_law_pot
  have F_law_draw := fun_mk (st := s_law_draw) l_law_draw co_law_draw k_law_draw
  have b_law_draw := F_law_draw.binds (ps := ["_law_pot_here", "_law_many"]) fun _ _ _ _ _ _ us hl => match us, hl with | [_, _], _ => rfl
  have m_law_draw := PySem.W.mg_of X G a_law_draw
  have F_law_pick := fun_mk (st := s_law_pick) l_law_pick co_law_pick k_law_pick
  have b_law_pick := F_law_pick.binds (ps := ["_law_pot_here", "_law_some"]) fun _ _ _ _ _ _ us hl => match us, hl with | [_, _], _ => rfl
  have m_law_pick := PySem.W.mg_of X G a_law_pick
  have F_law_names := fun_mk (st := s_law_names) l_law_names co_law_names k_law_names
  have b_law_names := F_law_names.binds (ps := ["_law_pot_here", "_law_many"]) fun _ _ _ _ _ _ us hl => match us, hl with | [_, _], _ => rfl
  have m_law_names := PySem.W.mg_of X G a_law_names
  have F_law_error := fun_mk (st := s_law_error) l_law_error co_law_error k_law_error
  have b_law_error := F_law_error.binds (ps := ["_law_ring", "_law_who", "_law_ends", "_law_way"]) fun _ _ _ _ _ _ us hl => match us, hl with | [_, _, _, _], _ => rfl
  have m_law_error := PySem.W.mg_of X G a_law_error
  have F_law_refused_right := fun_mk (st := s_law_refused_right) l_law_refused_right co_law_refused_right k_law_refused_right
  have b_law_refused_right := F_law_refused_right.binds (ps := ["_law_pot_here"]) fun _ _ _ _ _ _ us hl => match us, hl with | [_], _ => rfl
  have m_law_refused_right := PySem.W.mg_of X G a_law_refused_right
  have F_law_free_right := fun_mk (st := s_law_free_right) l_law_free_right co_law_free_right k_law_free_right
  have b_law_free_right := F_law_free_right.binds (ps := ["_law_pot_here"]) fun _ _ _ _ _ _ us hl => match us, hl with | [_], _ => rfl
  have m_law_free_right := PySem.W.mg_of X G a_law_free_right
  have F_law_relink_right := fun_mk (st := s_law_relink_right) l_law_relink_right co_law_relink_right k_law_relink_right
  have b_law_relink_right := F_law_relink_right.binds (ps := ["_law_pot_here"]) fun _ _ _ _ _ _ us hl => match us, hl with | [_], _ => rfl
  have m_law_relink_right := PySem.W.mg_of X G a_law_relink_right
  have F_law_right := fun_mk (st := s_law_right) l_law_right co_law_right k_law_right
  have b_law_right := F_law_right.binds (ps := ["_law_pot_here"]) fun _ _ _ _ _ _ us hl => match us, hl with | [_], _ => rfl
  have m_law_right := PySem.W.mg_of X G a_law_right
  have F_law := fun_mk (st := s_law) l_law co_law k_law
  have b_law := F_law.binds (ps := ["_law_script"]) fun _ _ _ _ _ _ us hl => match us, hl with | [_], _ => rfl
  have m_law := PySem.W.mg_of X G a_law
  have w_LETTERS := PySem.W.mg_of X G v_LETTERS
  have w_LONGEST_NAME := PySem.W.mg_of X G v_LONGEST_NAME
  have w_SHORTEST_PATH := PySem.W.mg_of X G v_SHORTEST_PATH
  have Y : Bn mg := ⟨PySem.W.mg_none_of X G z_len, PySem.W.mg_none_of X G z_range, PySem.W.mg_none_of X G z_abs, PySem.W.mg_none_of X G z_max, PySem.W.mg_none_of X G z_min, PySem.W.mg_none_of X G z_divmod, PySem.W.mg_none_of X G z_isinstance, PySem.W.mg_none_of X G z_str, PySem.W.mg_none_of X G z_int, PySem.W.mg_none_of X G z_bool, PySem.W.mg_none_of X G z_tuple, PySem.W.mg_none_of X G z_list, PySem.W.mg_none_of X G z_set, PySem.W.mg_none_of X G z_dict, PySem.W.mg_none_of X G z_all, PySem.W.mg_none_of X G z_any, PySem.W.mg_none_of X G z_repr, PySem.W.mg_none_of X G z_sorted, PySem.W.mg_none_of X G z_enumerate, PySem.W.mg_none_of X G z_zip⟩
  refine ⟨PySem.W.fnOf "law" "law" (defArgs s_law) (defBody s_law) (defScope s_law) .none kV_law dc_law pm_law an_law cd_law ct_law, fun s v => .of_eq rfl, fun base _ _ => ?_⟩
  have R_InvalidRelink := S_InvalidRelink.2 l.prog w mg base (PySem.W.mg_of X G e_InvalidRelink)
  have R_UnknownHost := S_UnknownHost.2 l.prog w mg base (PySem.W.mg_of X G e_UnknownHost)
  have TC : TxtC mg := ⟨⟨_, w_LETTERS⟩, ⟨_, w_LONGEST_NAME⟩⟩
  have X3 : X32 K c_InvalidRelink c_UnknownHost c_R := ⟨S_InvalidRelink.1, S_UnknownHost.1, exm_of bP_C iP_C tP_C s_CC, exm_of bP_C iP_C tP_C s_UC, exm_of bP_U iP_U tP_U s_UU, kit_sub ne_CR cl_R tP_R s_CR, kit_bt (by decide +kernel) s_CL, kit_sub ne_UR cl_R tP_R s_UR, kit_bt (by decide +kernel) s_UL, f_C, f_U⟩
  have G_is_integer_from := (⟨⟨_, _, m_is_integer_from, k_is_integer_from, b_is_integer_from, ok_from F_is_integer_from Y⟩⟩ : Fk l.prog w K mg base _ _ "is_integer_from" _ _)
  have G_is_index := (⟨⟨_, _, m_is_index, k_is_index, b_is_index, ok_idx F_is_index G_is_integer_from⟩⟩ : Fk l.prog w K mg base _ _ "is_index" _ _)
  have G_is_text_of := (⟨⟨_, _, m_is_text_of, k_is_text_of, b_is_text_of, ok_text F_is_text_of Y⟩⟩ : Fk l.prog w K mg base _ _ "is_text_of" _ _)
  have G_is_host_name := (⟨⟨_, _, m_is_host_name, k_is_host_name, b_is_host_name, ok_host F_is_host_name TC G_is_text_of⟩⟩ : Fk l.prog w K mg base _ _ "is_host_name" _ _)
  have G_is_relink_path := (⟨⟨_, _, m_is_relink_path, k_is_relink_path, b_is_relink_path, ok_path F_is_relink_path Y ⟨_, w_SHORTEST_PATH⟩ G_is_host_name⟩⟩ : Fk l.prog w K mg base _ _ "is_relink_path" _ _)
  have G_is_cut_of := (⟨⟨_, _, m_is_cut_of, k_is_cut_of, b_is_cut_of, ok_cut F_is_cut_of Y G_is_index⟩⟩ : Fk l.prog w K mg base _ _ "is_cut_of" _ _)
  have G_is_relink := (⟨⟨_, _, m_is_relink, k_is_relink, b_is_relink, ok_rel F_is_relink Y G_is_relink_path G_is_cut_of⟩⟩ : Fk l.prog w K mg base _ _ "is_relink" _ _)
  have G_check_relink := (⟨⟨_, _, m_check_relink, k_check_relink, b_check_relink, ok_chk F_check_relink R_InvalidRelink G_is_relink⟩⟩ : Fk l.prog w K mg base _ _ "check_relink" _ _)
  have G_position := (⟨⟨_, _, m_position, k_position, b_position, ok_pos F_position R_UnknownHost G_check_relink G_is_host_name⟩⟩ : Fk l.prog w K mg base _ _ "position" _ _)
  have G_end_bit := (⟨⟨_, _, m_end_bit, k_end_bit, b_end_bit, ok_end F_end_bit⟩⟩ : Fk l.prog w K mg base _ _ "end_bit" _ _)
  have G_forward_bit := (⟨⟨_, _, m_forward_bit, k_forward_bit, b_forward_bit, ok_fwd F_forward_bit Y G_position G_end_bit⟩⟩ : Fk l.prog w K mg base _ _ "forward_bit" _ _)
  have FF : FunF K f_forwards (PySem.W.fnOf "forwards" "forwards" (defArgs s_forwards) (defBody s_forwards) (defScope s_forwards) .none (.ref D_fw) dc_forwards pm_forwards an_forwards cd_forwards ct_forwards) := ⟨⟨_, _, .none, .ref D_fw, _, _, _, _, _, _, rfl, l_forwards, co_forwards, .inl ⟨rfl, rfl⟩, .inr ⟨D_fw, rfl, fun q hq => by
    simp only [List.mem_cons, List.not_mem_nil, or_false] at hq
    rcases hq with rfl | rfl | rfl | rfl | rfl
    · exact ⟨_, kd_src, rfl⟩
    · exact ⟨_, kd_bit, ⟨_, rfl⟩⟩
    · exact ⟨_, kd_rel, rfl⟩
    · exact ⟨_, kd_host, rfl⟩
    · exact ⟨_, kd_ph, ⟨_, rfl⟩⟩⟩⟩, k_forwards⟩
  have FO := (ok_forw F_forwards Y G_position G_forward_bit)
  obtain ⟨gA', kkA⟩ := kbA FF
  have GA_f := (⟨⟨_, _, gA', m_forwards, k_forwards, kkA, FO⟩⟩ : Fw l.prog w K mg base _ _ "forwards" FWP _ _ _ _)
  obtain ⟨gB', kkB⟩ := kbB FF
  have GB_f := (⟨⟨_, _, gB', m_forwards, k_forwards, kkB, FO⟩⟩ : Fw l.prog w K mg base _ _ "forwards" FWP _ _ _ _)
  obtain ⟨gC', kkC⟩ := kbC FF
  have GC_f := (⟨⟨_, _, gC', m_forwards, k_forwards, kkC, FO⟩⟩ : Fw l.prog w K mg base _ _ "forwards" FWP _ _ _ _)
  obtain ⟨gD', kkD⟩ := kbD FF
  have GD_f := (⟨⟨_, _, gD', m_forwards, k_forwards, kkD, FO⟩⟩ : Fw l.prog w K mg base _ _ "forwards" FWP _ _ _ _)
  obtain ⟨gE', kkE⟩ := kbE FF
  have GE_f := (⟨⟨_, _, gE', m_forwards, k_forwards, kkE, FO⟩⟩ : Fw l.prog w K mg base _ _ "forwards" FWP _ _ _ _)
  obtain ⟨gF', kkF⟩ := kbF FF
  have GF_f := (⟨⟨_, _, gF', m_forwards, k_forwards, kkF, FO⟩⟩ : Fw l.prog w K mg base _ _ "forwards" FWP _ _ _ _)
  have GP_f := (⟨⟨_, _, _, m_forwards, k_forwards, kbn_fwd F_forwards (ps := ["links", "source", "bit", "relink", "host", "phase"]) (ks := ["source", "bit", "relink", "host", "phase"]) (n := 1) (fun _ _ _ _ _ _ us ws h1 h2 => match us, ws, h1, h2 with | [_], [_, _, _, _, _], _, _ => rfl), FO⟩⟩ : Fw l.prog w K mg base _ _ "forwards" _ _ _ _ _)
  have G_law_pot := (⟨⟨_, _, m_law_pot, k_law_pot, b_law_pot, ok_pot F_law_pot Y⟩⟩ : Fk l.prog w K mg base _ _ "_law_pot" _ _)
  have G_law_draw := (⟨⟨_, _, m_law_draw, k_law_draw, b_law_draw, ok_draw F_law_draw Y⟩⟩ : Fk l.prog w K mg base _ _ "_law_draw" _ _)
  have G_law_pick := (⟨⟨_, _, m_law_pick, k_law_pick, b_law_pick, ok_pick F_law_pick Y G_law_draw⟩⟩ : Fk l.prog w K mg base _ _ "_law_pick" _ _)
  have G_law_names := (⟨⟨_, _, m_law_names, k_law_names, b_law_names, ok_names F_law_names Y G_law_draw G_law_pick⟩⟩ : Fk l.prog w K mg base _ _ "_law_names" _ _)
  have G_law_error := (⟨⟨_, _, m_law_error, k_law_error, b_law_error, ok_err F_law_error Y (PySem.W.mg_of X G e_InvalidRelink) (PySem.W.mg_of X G e_UnknownHost) (PySem.W.mg_of X G e_R) (PySem.W.mg_none_of X G z_LE) X3 ⟨cg, ct⟩ GF_f G_forward_bit⟩⟩ : Fg l.prog w K mg base _ _ "_law_error" _ _)
  have G_law_refused_right := (⟨⟨_, _, m_law_refused_right, k_law_refused_right, b_law_refused_right, ok_ref F_law_refused_right Y G_law_pick G_law_names G_law_error⟩⟩ : Fg l.prog w K mg base _ _ "_law_refused_right" _ _)
  have G_law_free_right := (⟨⟨_, _, m_law_free_right, k_law_free_right, b_law_free_right, ok_free F_law_free_right Y G_law_draw G_law_pick G_law_names GA_f GB_f GC_f GD_f⟩⟩ : Fg l.prog w K mg base _ _ "_law_free_right" _ _)
  have G_law_relink_right := (⟨⟨_, _, m_law_relink_right, k_law_relink_right, b_law_relink_right, ok_relr F_law_relink_right Y G_law_draw G_law_pick G_law_names G_forward_bit GP_f GE_f⟩⟩ : Fg l.prog w K mg base _ _ "_law_relink_right" _ _)
  have G_law_right := (⟨⟨_, _, m_law_right, k_law_right, b_law_right, ok_right F_law_right G_law_free_right G_law_relink_right G_law_refused_right⟩⟩ : Fg l.prog w K mg base _ _ "_law_right" _ _)
  exact ok_law F_law Y G_law_pot G_law_right
end My

open PySem PySem.W PyProof.Rows in
set_option maxRecDepth 100000 in
set_option maxHeartbeats 0 in
theorem PySem.Challenge.cw_relinktree_k32_forwards_holds : PySem.Challenge.rw_relinktree_k32_forwards.Holds := by
  w_on; o_law; k_head; (case hw => w_witness2)
  k_fill
  refine Gy.walk_g (l := PySem.Challenge.rw_relinktree_k32_forwards) (n := 63) (k := 12) (x := "_law_script") (sp := My.spLaw) rfl (by decide) rfl ⟨rfl, by decide, by decide⟩ (fun w h Y => PySem.W.kIn_of Y) ?F (fun K H a ns hl hS => ⟨a, ns, rfl, hS, hl, fun _ => rfl⟩)
  case F =>
    intro w mg fa h KX G hmg
    refine' My.all_mk KX G hmg ?a_is_integer_from ?l_is_integer_from ?co_is_integer_from ?k_is_integer_from ?a_is_index ?l_is_index ?co_is_index ?k_is_index ?a_is_text_of ?l_is_text_of ?co_is_text_of ?k_is_text_of ?a_is_host_name ?l_is_host_name ?co_is_host_name ?k_is_host_name ?a_is_relink_path ?l_is_relink_path ?co_is_relink_path ?k_is_relink_path ?a_is_cut_of ?l_is_cut_of ?co_is_cut_of ?k_is_cut_of ?a_is_relink ?l_is_relink ?co_is_relink ?k_is_relink ?a_check_relink ?l_check_relink ?co_check_relink ?k_check_relink ?a_position ?l_position ?co_position ?k_position ?a_end_bit ?l_end_bit ?co_end_bit ?k_end_bit ?a_forward_bit ?l_forward_bit ?co_forward_bit ?k_forward_bit ?a_forwards ?l_forwards ?co_forwards ?k_forwards ?a_law_pot ?l_law_pot ?co_law_pot ?k_law_pot ?a_law_draw ?l_law_draw ?co_law_draw ?k_law_draw ?a_law_pick ?l_law_pick ?co_law_pick ?k_law_pick ?a_law_names ?l_law_names ?co_law_names ?k_law_names ?a_law_error ?l_law_error ?co_law_error ?k_law_error ?a_law_refused_right ?l_law_refused_right ?co_law_refused_right ?k_law_refused_right ?a_law_free_right ?l_law_free_right ?co_law_free_right ?k_law_free_right ?a_law_relink_right ?l_law_relink_right ?co_law_relink_right ?k_law_relink_right ?a_law_right ?l_law_right ?co_law_right ?k_law_right ?a_law ?l_law ?co_law ?k_law ?v_LETTERS ?v_LONGEST_NAME ?v_SHORTEST_PATH ?z_len ?z_range ?z_abs ?z_max ?z_min ?z_divmod ?z_isinstance ?z_str ?z_int ?z_bool ?z_tuple ?z_list ?z_set ?z_dict ?z_all ?z_any ?z_repr ?z_sorted ?z_enumerate ?z_zip ?e_InvalidRelink ?S_InvalidRelink ?e_UnknownHost ?S_UnknownHost ?e_R ?z_LE ?kv_fw ?kd_src ?kd_bit ?kd_rel ?kd_host ?kd_ph ?cg ?ct ?cl_R ?tP_R ?bP_C ?iP_C ?tP_C ?bP_U ?iP_U ?tP_U ?s_CC ?s_UC ?s_UU ?s_CR ?ne_CR ?s_UR ?ne_UR ?s_CL ?s_UL ?f_C ?f_U
    (case a_is_integer_from => k_is)
    (case l_is_integer_from => k_is)
    (case co_is_integer_from => k_is)
    (case k_is_integer_from => k_is)
    (case a_is_index => k_is)
    (case l_is_index => k_is)
    (case co_is_index => k_is)
    (case k_is_index => k_is)
    (case a_is_text_of => k_is)
    (case l_is_text_of => k_is)
    (case co_is_text_of => k_is)
    (case k_is_text_of => k_is)
    (case a_is_host_name => k_is)
    (case l_is_host_name => k_is)
    (case co_is_host_name => k_is)
    (case k_is_host_name => k_is)
    (case a_is_relink_path => k_is)
    (case l_is_relink_path => k_is)
    (case co_is_relink_path => k_is)
    (case k_is_relink_path => k_is)
    (case a_is_cut_of => k_is)
    (case l_is_cut_of => k_is)
    (case co_is_cut_of => k_is)
    (case k_is_cut_of => k_is)
    (case a_is_relink => k_is)
    (case l_is_relink => k_is)
    (case co_is_relink => k_is)
    (case k_is_relink => k_is)
    (case a_check_relink => k_is)
    (case l_check_relink => k_is)
    (case co_check_relink => k_is)
    (case k_check_relink => k_is)
    (case a_position => k_is)
    (case l_position => k_is)
    (case co_position => k_is)
    (case k_position => k_is)
    (case a_end_bit => k_is)
    (case l_end_bit => k_is)
    (case co_end_bit => k_is)
    (case k_end_bit => k_is)
    (case a_forward_bit => k_is)
    (case l_forward_bit => k_is)
    (case co_forward_bit => k_is)
    (case k_forward_bit => k_is)
    (case a_forwards => k_is)
    (case l_forwards => k_is)
    (case co_forwards => k_is)
    (case k_forwards => k_is)
    (case a_law_pot => k_is)
    (case l_law_pot => k_is)
    (case co_law_pot => k_is)
    (case k_law_pot => k_is)
    (case a_law_draw => k_is)
    (case l_law_draw => k_is)
    (case co_law_draw => k_is)
    (case k_law_draw => k_is)
    (case a_law_pick => k_is)
    (case l_law_pick => k_is)
    (case co_law_pick => k_is)
    (case k_law_pick => k_is)
    (case a_law_names => k_is)
    (case l_law_names => k_is)
    (case co_law_names => k_is)
    (case k_law_names => k_is)
    (case a_law_error => k_is)
    (case l_law_error => k_is)
    (case co_law_error => k_is)
    (case k_law_error => k_is)
    (case a_law_refused_right => k_is)
    (case l_law_refused_right => k_is)
    (case co_law_refused_right => k_is)
    (case k_law_refused_right => k_is)
    (case a_law_free_right => k_is)
    (case l_law_free_right => k_is)
    (case co_law_free_right => k_is)
    (case k_law_free_right => k_is)
    (case a_law_relink_right => k_is)
    (case l_law_relink_right => k_is)
    (case co_law_relink_right => k_is)
    (case k_law_relink_right => k_is)
    (case a_law_right => k_is)
    (case l_law_right => k_is)
    (case co_law_right => k_is)
    (case k_law_right => k_is)
    (case a_law => k_is)
    (case l_law => k_is)
    (case co_law => k_is)
    (case k_law => k_is)
    (case v_LETTERS => k_is)
    (case v_LONGEST_NAME => k_is)
    (case v_SHORTEST_PATH => k_is)
    (case z_len => k_is)
    (case z_range => k_is)
    (case z_abs => k_is)
    (case z_max => k_is)
    (case z_min => k_is)
    (case z_divmod => k_is)
    (case z_isinstance => k_is)
    (case z_str => k_is)
    (case z_int => k_is)
    (case z_bool => k_is)
    (case z_tuple => k_is)
    (case z_list => k_is)
    (case z_set => k_is)
    (case z_dict => k_is)
    (case z_all => k_is)
    (case z_any => k_is)
    (case z_repr => k_is)
    (case z_sorted => k_is)
    (case z_enumerate => k_is)
    (case z_zip => k_is)
    (case e_InvalidRelink => k_is)
    (case S_InvalidRelink =>
      refine' My.raw_InvalidRelink ?ii ?ov ?sa ?ga ?gg ?ca ?ex ?ob ?hd ?kp ?ty ?ini ?tf ?li ?ci ?ki ?n0
      (case ii => kx_is)
      (case ov => kx_is)
      (case sa => k_is)
      (case ga => k_is)
      (case gg => k_is)
      (case ca => k_is)
      (case ex => k_is)
      (case ob => k_is)
      (case hd => k_is)
      (case kp => k_is)
      (case ty => k_is)
      (case ini => k_is)
      (case tf => k_is)
      (case li => k_is)
      (case ci => k_is)
      (case ki => k_is)
      (case n0 => k_is))
    (case e_UnknownHost => k_is)
    (case S_UnknownHost =>
      refine' My.raw_UnknownHost ?ii ?ov ?sa ?ga ?gg ?ca ?ex ?ob ?hd ?kp ?ty ?ini ?tf ?li ?ci ?ki ?n0
      (case ii => kx_is)
      (case ov => kx_is)
      (case sa => k_is)
      (case ga => k_is)
      (case gg => k_is)
      (case ca => k_is)
      (case ex => k_is)
      (case ob => k_is)
      (case hd => k_is)
      (case kp => k_is)
      (case ty => k_is)
      (case ini => k_is)
      (case tf => k_is)
      (case li => k_is)
      (case ci => k_is)
      (case ki => k_is)
      (case n0 => k_is))
    (case e_R => k_is)
    (case z_LE => k_is)
    (case kv_fw => rfl)
    (case kd_src => k_is)
    (case kd_bit => k_is)
    (case kd_rel => k_is)
    (case kd_host => k_is)
    (case kd_ph => k_is)
    (case cg => k_is)
    (case ct => k_is)
    (case cl_R => k_is)
    (case tP_R => k_is)
    (case bP_C => k_is)
    (case iP_C => k_is)
    (case tP_C => k_is)
    (case bP_U => k_is)
    (case iP_U => k_is)
    (case tP_U => k_is)
    (case s_CC => k_is)
    (case s_UC => k_is)
    (case s_UU => k_is)
    (case s_CR => k_is)
    (case ne_CR => decide)
    (case s_UR => k_is)
    (case ne_UR => decide)
    (case s_CL => k_is)
    (case s_UL => k_is)
    (case f_C => k_is)
    (case f_U => k_is)

