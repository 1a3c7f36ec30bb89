import PyProof.Rows.All
import Wide.All
import OpenK.AllK
import Wide.FinOn
import HandS.ForMost
import HandS.IsInst
import HandS.Walk
import KE.KExcPX
import KE.KExcInit
import KE.KExcIs
import HandS.ExcInit
import PyProof.ReprLen
import HandS.ForExc
import HandS.ExcField
import HandS.TryMany
import HandS.CallSlots
import HandS.Strs
import HandS.TupAny
import PyProof.ReprHeadsEmpty
import HandS.WideBits
import HandS.DeepEq
import PyProof.ReprText
import HandS.Style
import HandS.CallLocal
import HandS.WrittenGet
import HandS.Defaults
import PyProof.EqKinds
import PyProof.FactsAll.dict_1
import PyProof.FactsAll.subtypes_4
import PyProof.FactsAll.subtypes_3
import PyProof.FactsAll.str_1
import KE.KExcLine
import PySem.Challenge.RW_relinktree_k16_relinks_judged
set_option Elab.async false
set_option linter.all false
set_option maxRecDepth 100000
set_option maxHeartbeats 4000000
/-! Defs whose promise needs to know that no repr is under way: the layer's def, call and end once more with that premise. -/
namespace Gy
open PySem PySem.Spec PyProof.Rows L2

/-- repr of data at an address -/
theorem repr_dat {X : Cx} (hg : X.A.guards = some []) (hu : X.A.units + 70 < cLine) :
    CallR X (.builtin "repr") (fun xs H Q => ∃ a d, xs = [.ref a] ∧ Dp X.K H (.ref a) d ∧ d.showable = true ∧ d.hasDict = false ∧ d.depth ≤ 60 ∧
      d.shown.length ≤ sizeLine ∧ Q (.str d.shown) H) := by
  intro pins s σ H xs us Q I r h
  obtain ⟨a, d, rfl, hd, h1, h2, h3, h4, q⟩ := h
  obtain ⟨u, rfl, ru⟩ := vals1 r
  obtain ⟨as, rd⟩ := Dp.reads I d _ u hd ru
  cases ru
  refine repr_of_reads' rd h1 (fun z => ?_) hg (by omega) (fun _ _ e => e) (fun h' u tk hk => ?_) h4
  · rw [h2] at z
    cases z
  · exact ⟨.str _, H, I.kept hk, ⟨u, rfl⟩, q⟩

/-- a def's promise, where no repr is under way -/
structure FnG (P : Program) (w : World) (K : PySem.W.Frag) (mg : Str → Option Value) (base : Heap)
    (CX : CXT) (k : Nat) (f : Addr) (fd : FuncData) (ps : List Str) (sp : Sp) : Prop where
  ln : ∀ {vs H Q E}, sp vs H Q E → vs.length = ps.length
  go : ∀ {A outer s H args us vs Q E}, A.guards = some [] → Room k A → Env0 P w K mg base A outer s H →
    BindsTo s fd args (ps.zip us) → Vals vs us → sp vs H Q E → codeAny (model P w) A (.call (.ref f) args) (CR CX outer P w H s Q E) s

section
variable {P : Program} {w : World} {K : PySem.W.Frag} {mg : Str → Option Value} {base : Heap} {CX : CXT} {k : Nat} {f : Addr} {fd : FuncData} {ps N : List Str} {sp : Sp}
theorem FnG.up {j : Nat} (F : FnG P w K mg base CX j f fd ps sp) (h : j ≤ k) : FnG P w K mg base CX k f fd ps sp :=
  ⟨F.ln, fun g hr => F.go g (hr.mono h)⟩
theorem FnG.of (F : FnOk P w K mg base CX k f fd ps sp) : FnG P w K mg base CX k f fd ps sp :=
  ⟨fun h => F.len _ _ _ _ h, fun _ hr e b v h => F.run _ _ _ _ _ _ _ _ _ hr e b v h⟩

theorem fun_g {x qual : Str} {st : Stmt} (F : Fun K x qual st f fd) (S : FnScope N ps (defScope st)) (ln : ∀ {vs H Q E}, sp vs H Q E → vs.length = ps.length)
    (bd : ∀ (cdv : Value) (A : Around) (outer : List Env) (s : Shared) (H : Hp) (vs : List V) (Q : VK) (E : XK), A.guards = some [] →
      Room k (A.deeper (envOfC qual (defScope st) s.heap.objs.size f cdv)) → sp vs H Q E →
      ∃ t, PSs (cxOf CX P w K mg base N qual (defScope st) f cdv A outer s H E) (defBody st) t ∧
        t { nx := fun _ H' => Q .non H', rt := Q } (start N vs) H) :
    FnG P w K mg base CX (k + 1) f fd ps sp := by
  obtain ⟨oc, od, kV, doc, pm, an, cdv, ct, osl, rfl, lk, hcd⟩ := F.ex
  refine ⟨ln, ?_⟩
  intro A outer s H args us vs Q E g hr e0 hb rl hsp
  have stay : ∀ b o, base.get? b = some o → s.heap.get? b = some o := fun b o e => (e0.bs b o e).1
  have kin := e0.mod.kin.keeps stay
  have nol := e0.mod.nolimit.keeps stay
  refine codeAny_call_function hr.depth (kin _ _ lk) rfl S.co S.gen rfl (PySem.W.codeRec_of kin hcd) (hb _ _ _ _ ?_)
  refine wpAny_newFunctionEnv_cells S.kind ?_ ?_
  · rintro ⟨n, v⟩ hy
    refine (S.par n (List.of_mem_zip hy).1).imp id fun q => ⟨q, ?_⟩
    exact PySem.W.cellsFrom_some _ _ _ (.inl q)
  · rintro env rfl s1 x
    refine ⟨nol.keeps x.toInCall.keep, codeAny_func ?_⟩
    obtain ⟨t, ht, hq⟩ := bd cdv A outer s H vs Q E g (hr.deeper _) hsp
    have I := inv_start (CX := CX) (E := E) (outer := outer) S hr.hd e0 (ln hsp) rl x
    refine wpAny_mono (ht.run [] s1 (start N vs) H _ I hq) ?_ (fun _ _ z => z)
    rintro (_ | _ | _ | u) s' z
    all_goals first
      | (obtain ⟨σ', H', J, q⟩ := z
         exact ⟨V.non, H', J.os, J.bare, J.base, J.hok, rfl, q⟩)
      | (obtain ⟨_, _, _, q⟩ := z
         exact q.elim)
      | (obtain ⟨v, σ', H', J, rv, q⟩ := z
         exact ⟨v, H', J.os, J.bare, J.base, J.hok, rv, q⟩)
end
end Gy

namespace Gy
open PySem PySem.Spec PyProof.Rows L2

/-- the readings of the two calls below -/
def tG (sp : Sp) (E : XK) (t : TA) : TE := fun σ H Q => t σ H fun vs H1 => sp vs H1 Q E
def tKw0 (sp : Sp) (gV : List V → List V → List V) (E : XK) (tk : TA) : TE := fun σ H Q => tk σ H fun zs H1 => sp (gV [] zs) H1 Q E
section
variable {X : Cx} {CX : CXT} {k : Nat} {f : Addr} {fd : FuncData} {ps ks : List Str} {sp : Sp} {E : XK} {x : Str} {p pos : Pos} {e : Expr} {es : List Expr} {kws : List Keyword} {t tk : TA}
variable {g : List Value → List Value → List Value} {gV : List V → List V → List V}
/-- f(e, ..) of a def that wants to know of repr -/
theorem pe_callG (F : FnG X.prog X.w X.K X.mg X.base CX k f fd ps sp) (gd : X.A.guards = some []) (hr : Room k X.A) (hg : Gl X x)
    (hm : X.mg x = some (.ref f)) (hk : PySem.W.keepIn X.K (.ref f) = true) (hb : Binds X.K fd ps []) (hx : Passes CX X E) (ha : PA X (e :: es) t)
    (hdb : (x == ("__debug__" : Str)) = false := by decide) (he : starEach (e :: es) X.env = (false, eval e X.env) :: starEach es X.env := by rfl)
    (hpl : (backTo pos (starEach es X.env)).any (·.1) = false := by rfl) :
    PE X (.Call (.Name x p) (e :: es) [] pos) (tG sp E t) := by
  constructor
  intro pins s σ H Q I h
  refine wpAny_Call_Name_kw (ld_glob I hg hm ?_ hdb)
  refine PySem.W.callWith_K (h₀ := X.base) I.ok.mod.kin hk (thn (ha.run pos pins s σ H _ I h) ?_) he hpl
  rintro us s1 ⟨vs, H1, I1, r, q⟩
  refine ⟨I1.kIn, wpAny_call (codeAny_mono (F.go (args := ⟨us, []⟩) gd hr I1.env0 ?_ r q) ?_)⟩
  · have b := hb s1 us I1.kIn (by rw [List.append_nil, ← r.length]; exact F.ln q)
    rwa [List.append_nil] at b
  · rintro (er | (_ | _ | _ | u)) s' z
    · exact hx pins σ H1 s1 er s' I1 z
    · exact z.elim
    · exact z.elim
    · exact z.elim
    · exact I1.after z
/-- f(k = v, ..), nothing by position -/
theorem pe_kw0 (F : FnOk X.prog X.w X.K X.mg X.base CX k f fd ps sp) (hr : Room k X.A) (hg : Gl X x) (hm : X.mg x = some (.ref f))
    (hk : PySem.W.keepIn X.K (.ref f) = true) (hb : KBinds X.K fd ps ks g gV) (hx : Passes CX X E) (hkw : PK X kws tk)
    (hall : (backToKw pos (keywordEach kws X.env)).all (·.1.isSome) = true := by rfl) (hks : (backToKw pos (keywordEach kws X.env)).filterMap (·.1) = ks := by rfl)
    (hdb : (x == ("__debug__" : Str)) = false := by decide)
    (hpl : ((backTo pos (starEach [] X.env)).any (·.1) || (backToKw pos (keywordEach kws X.env)).any (·.1.isNone)) = false := by rfl) :
    PE X (.Call (.Name x p) [] kws pos) (tKw0 sp gV E tk) := by
  constructor
  intro pins s σ H Q I h
  refine wpAny_Call_Name_kw (ld_glob I hg hm ?_ hdb)
  refine PySem.W.callWith_KW0 (h₀ := X.base) I.ok.mod.kin hk hall (thn (hkw.run pos pins s σ H _ I h) ?_) hpl
  rintro ws s2 ⟨zs, H2, I2, rz, q2⟩
  rw [hks]
  exact ⟨I2.kIn, run_fnk (us := []) F hr hb hx I2 .nil rz q2⟩
end

/-- the law's call, its def a FnG -/
theorem end_g {P : Program} {w : World} {K : PySem.W.Frag} {mg mb : Str → Option Value} {CX : CXT} {k : Nat} {fa a : Addr} {fd : FuncData} {x : Str} {sp : Sp}
    {s : Shared} {vs : List Value} {ns : List Int} (kin : K.In s.heap) (hns : s.heap.Ns mainGlobals mg) (hb : s.heap.Ns builtinsNs mb)
    (hbb : ∀ x : Str, x ≠ "__name__" → mb x = bootBuiltins x) (nol : s.heap.NoLimit) (hg : s.gens = #[])
    (ha : s.heap.get? a = some { cls := .type "list", data := .seq vs.toArray }) (hi : IntsAre vs ns) (hl : ns.length ≤ sizeLine) (hr : Room k callerA)
    (F : ∀ base : Heap, K.In base → base.Ns mainGlobals mg → FnG P w K mg base CX k fa fd [x] sp)
    (bnd : ∀ (s : Shared) (u : Value), BindsTo s fd ⟨[u], []⟩ [(x, u)])
    (hsp : ∀ H : Hp, Only H → SqL K H a (ns.map V.int) → sp [.ref a] H (fun v _ => v = .bl true) fun _ _ _ => False)
    (hCX : ∀ H e s', CX [] H s (fun _ _ _ => False) e s' → False) :
    codeAny (model P w) callerA (.call (.ref fa) ⟨[.ref a], []⟩)
      (fun r s' => r = .ok (.ret (.bool true)) ∧ OldK s.heap s'.heap ∧ s'.os = s.os ∧ AllBare s'.gens) s := by
  have main : ∀ H : Hp, Only H → SqL K H a (ns.map V.int) → HOk P w H s.heap → (∀ b, H b ≠ none → b = a) → (H a ≠ none → K.lookup a = none) →
      codeAny (model P w) callerA (.call (.ref fa) ⟨[.ref a], []⟩)
        (fun r s' => r = .ok (.ret (.bool true)) ∧ OldK s.heap s'.heap ∧ s'.os = s.os ∧ AllBare s'.gens) s := by
    intro H only seq hok alone notK
    have noD : ∀ {b o es ep}, s.heap.get? b = some o → o.data = .dict es ep → H b = none := by
      intro b o es ep e d
      cases q : H b with
      | none => rfl
      | some u =>
        obtain rfl := alone b (by rw [q]; exact fun z => nomatch z)
        rw [ha] at e
        cases e
        exact nomatch d
    have nsB : ∀ {b m}, s.heap.Ns b m → (hidT s.heap H).Ns b m := by
      rintro b m ⟨o, es, ep, e, d, r⟩
      exact ⟨o, es, ep, hidT_get e (noD e d), d, r⟩
    have kB : K.In (hidT s.heap H) := by
      intro b o e
      refine hidT_get (kin b o e) ?_
      cases q : H b with
      | none => rfl
      | some u =>
        obtain rfl := alone b (by rw [q]; exact fun z => nomatch z)
        rw [notK (by rw [q]; exact fun z => nomatch z)] at e
        cases e
    obtain ⟨mc, l1, l2⟩ := nol
    have e0 : Env0 P w K mg (hidT s.heap H) callerA [] s H := by
      refine ⟨rfl, ⟨kB, nsB hns, ⟨mb, nsB hb, hbb⟩, ⟨mc, nsB l1, l2⟩⟩, fun b o e => of_hidT e, Nat.le_of_eq (hidT_size _ _), trivial, ?_, hok, .of_eq hg⟩
      intro b z
      exact nomatch (show b ∈ ([] : List Addr) from z)
    have run := (F _ kB (nsB hns)).go (A := callerA) (args := ⟨[.ref a], []⟩) (us := [.ref a]) (vs := [V.ref a]) rfl hr e0 (bnd s (.ref a)) (.cons rfl .nil) (hsp H only seq)
    refine codeAny_mono run ?_
    rintro (er | (_ | _ | _ | u)) s' z
    · exact (hCX H er s' z).elim
    · exact z.elim
    · exact z.elim
    · exact z.elim
    · obtain ⟨v, H', os, bare, un, hok', rv, q⟩ := z
      cases (show v = .bl true from q)
      cases (show u = Value.bool true from rv)
      refine ⟨rfl, OldK.of_keep fun b o e => ?_, os, bare⟩
      rcases only b with n | ⟨ob, xs, y⟩
      · exact un.keep b o e n (fun z => nomatch (show b ∈ ([] : List Addr) from z)) (fun z => nomatch z)
      · obtain ⟨e1, _⟩ := hok b _ y
        obtain ⟨e2, _⟩ := hok' b _ (un.frzs b ob _ y)
        rw [e] at e1
        cases e1
        exact e2
  have rv := vals_ints hi
  cases hk : K.lookup a with
  | some o =>
    have e := kin a o hk
    rw [ha] at e
    cases e
    refine main (fun _ => none) (fun _ => .inl rfl) (.inr ⟨_, vs.toArray, _, hk, rfl, rfl, rfl, ?_, rv⟩) (fun b u z => nomatch z) (fun b z => absurd rfl z) (fun z => absurd rfl z)
    rw [List.size_toArray, hi.length]
    exact hl
  | none =>
    let ob : Obj := { cls := .type "list", data := .seq vs.toArray }
    refine main (fun b => if b = a then some (.frz ob (.lst (ns.map V.int))) else none) (fun b => ?_) (.inl (.inr ⟨ob, if_pos rfl⟩)) (fun b u z => ?_) (fun b z => ?_) (fun _ => hk)
    · by_cases q : b = a
      · exact .inr ⟨_, _, if_pos q⟩
      · exact .inl (if_neg q)
    · by_cases q : b = a
      · have y := (if_pos q).symm.trans z
        cases y
        subst q
        exact ⟨ha, by rw [List.length_map]; exact hl, vs, _, rv, ha⟩
      · have y := (if_neg q).symm.trans z
        cases y
    · by_cases q : b = a
      · exact q
      · exact absurd (if_neg q) z

/-- what k_head leaves, from a law that is a FnG -/
theorem walk_g {l : PySem.W.OpenLaw} {n k : Nat} {q : Program} {loose : List Str} {XP : (Str → Option Value) → Heap → Prop} {YP : World → Heap → Prop} {d : DefRec}
    {K : Params → PySem.W.Frag} {sp : PySem.W.Frag → Sp} {x : Str} (hn : l.most = some n) (hn2 : n ≤ sizeLine) (hdf : d.params.defaults = []) (hr : Room k callerA)
    (hY : ∀ (w : World) (h : Heap), YP w h → (K w.params).In h)
    (F : ∀ (w : World) (mg : Str → Option Value) (fa : Addr) (h : Heap), (K w.params).In h → h.Ns mainGlobals mg → mg d.name = some (.ref fa) →
      ∃ fd : FuncData, (∀ (s : Shared) (u : Value), BindsTo s fd ⟨[u], []⟩ [(x, u)]) ∧
        ∀ base : Heap, (K w.params).In base → base.Ns mainGlobals mg → FnG l.prog w (K w.params) mg base CX0 k fa fd [x] (sp (K w.params)))
    (hsp : ∀ (K : PySem.W.Frag) (H : Hp) (a : Addr) (ns : List Int), ns.length ≤ n → SqL K H a (ns.map V.int) → sp K [.ref a] H (fun v _ => v = .bl true) fun _ _ _ => False) :
    PySem.W.WalkO q loose XP YP l.row.toRowW d [] (fun f vs => PySem.call f vs) := by
  refine Att.attach_call hn hdf ?_
  intro w s₀ s₁ mg mb fa o pm cd doc a vs ns G Y ho hd hcd hmg hobj hints hlen hg
  have kin := hY w _ Y
  obtain ⟨fd, hb, hF⟩ := F w mg fa _ kin G.T.g hmg
  exact end_g kin G.T.g G.T.b G.T.builtins G.T.nolimit hg hobj hints (Nat.le_trans hlen hn2) hr hF hb (fun H _ hS => hsp _ H a ns hlen hS) (fun _ _ _ z => z)
end Gy

/-! An own exception class called with keywords: BaseException.__new__ takes them and forgets them, the own __init__ gets them. -/
namespace PySem
namespace Xg
open Builtin Builtin.ObjectAttr
section
variable {M : Model} {A : Around} {E : Value → Shared → Prop} {h : Heap} {g : Array GenState} {d : Drawn} {t : Nat} {os : OsState}
variable {nm q : Str} {C N : Addr} {bs bm bmB : List Value} {hdct : Bool} {sn : List Str} {sub : List Value} {ab : Bool} {col : Option Bool} {dd : Option Addr} {k0 k1 k2 k3 k5 : Option Value} {B newId initId : String}
theorem kw_check (F : ExcBaseFacts B newId initId bmB) (hT : ∀ X : String, bm.contains (.type X) = bmB.contains (.type X)) {us : List Value} {kw : List (Str × Value)} {Q : Unit → Shared → Prop}
    (cl : h.get? C = some (excClassObj nm q C N bs bm hdct sn sub ab col dd k0 k1 k2 k3 k5 newId)) (z : Q () ⟨h, g, d, t, os⟩) :
    wpAny M A (checkBuiltinCall newId ⟨.ref C :: us, kw⟩) Q E ⟨h, g, d, t, os⟩ := by
  have has : (Value.ref C :: bm).contains (.type B) = true := by
    rw [List.contains_cons, hT, F.hasB, Bool.or_true]
  have star := F.noStar
  simp only [checkBuiltinCall, F.newKind, F.newSplit, F.newRow]
  repeat (first
    | refine wpAny_loadPart_at cl ?_
    | (refine wpAny_isSubtype_exc cl ?_; rw [has])
    | refine wpAny_staticBase_exc cl ?_
    | refine wpAny_madeBy_exc cl ?_
    | simp only [bne_self_eq_false, Bool.false_eq_true, if_false]
    | wp_step)
  exact z
end
section
variable {prog : Program} {w : World} {A : Around} {E : Value → Shared → Prop} {R : Result → Shared → Prop} {h : Heap} {g : Array GenState} {d : Drawn} {t : Nat} {os : OsState}
variable {nm q : Str} {C N : Addr} {bs bm bmB : List Value} {hdct : Bool} {sn : List Str} {sub : List Value} {ab : Bool} {col : Option Bool} {dd : Option Addr} {k0 k1 k2 k3 k5 : Option Value} {B newId initId : String}
theorem kw_new (F : ExcBaseFacts B newId initId bmB) (hT : ∀ X : String, bm.contains (.type X) = bmB.contains (.type X)) {us : List Value} {kw : List (Str × Value)}
    (cl : h.get? C = some (excClassObj nm q C N bs bm hdct sn sub ab col dd k0 k1 k2 k3 k5 newId))
    (z : R (.ok (.ret (.ref (h.objs.size + 1)))) ⟨(h.push (W.kdv_tup us)).push (PX.excO C h.objs.size), g, d, t, os⟩) (len : us.length ≤ sizeLine) :
    codeAny (model prog w) A (.builtin newId ⟨.ref C :: us, kw⟩) R ⟨h, g, d, t, os⟩ := by
  have ends := F.ends
  have hB : (Value.ref C :: bm).contains (.type B) = true := by
    rw [List.contains_cons, hT, F.hasB, Bool.or_true]
  have hA : (Value.ref C :: bm).contains (.type "AttributeError") = false := by
    rw [List.contains_cons, hT, F.noAttr]
    rfl
  have hN : (Value.ref C :: bm).contains (.type "NameError") = false := by
    rw [List.contains_cons, hT, F.noName]
    rfl
  refine codeAny_builtinAt F.entry ?_
  unfold Builtin.«BaseException.__new__»
  refine wpAt_bind ?_
  show wpAt _ _ _ (stack >>= _) _ _ _
  refine wpAt_bind (wpAt_stack fun p below => wpAt_of_wpAny ?_)
  wp_walk
  refine wpAt_of_wpAny ?_
  rw [F.owner]
  repeat (first
    | with_reducible refine wpAny_madeHere_exc F.canon cl ?_
    | with_reducible refine wpAny_loadPart_at cl ?_
    | (with_reducible refine wpAny_isSubtype_exc cl ?_; first | rw [hB] | rw [hA] | rw [hN])
    | wp_step)
  show R _ _
  rw [Heap.size_push]
  exact z
theorem kw_type (F : ExcBaseFacts B newId initId bmB) (hT : ∀ X : String, bm.contains (.type X) = bmB.contains (.type X)) {us : List Value} {kw : List (Str × Value)} {fI : Addr} {Q : Fin → Shared → Prop}
    (cl : h.get? C = some (excClassObj nm q C N bs bm hdct sn sub ab col dd k0 k1 k2 k3 k5 newId))
    (hi : W.Looks (model prog w) h (typeLookup (.ref C) "__init__") (some (.ref fI))) (hb : ∀ self, W.Looks (model prog w) h (bindSpecial (.ref fI) self) (.ref fI, [self]))
    (len : us.length ≤ sizeLine)
    (z : codeAny (model prog w) A (.call (.ref fI) ⟨.ref (h.objs.size + 1) :: us, kw⟩)
      (fun r s' => match r with | .ok (.ret v) => v = .none ∧ Q (.done (.ret (.ref (h.objs.size + 1)))) s' | .ok _ => False | .error e => E e s')
      ⟨(h.push (W.kdv_tup us)).push (PX.excO C h.objs.size), g, d, t, os⟩) :
    wpAny (model prog w) A (Builtin.«type.__call__» ⟨.ref C :: us, kw⟩) Q E ⟨h, g, d, t, os⟩ := by
  repeat (first
    | with_reducible refine wpAny_loadPart_at cl ?_
    | with_reducible refine wpAny_madeBy_exc cl ?_
    | wp_step)
  refine codeAny_call_builtin_code (Code.quiet_builtin _ F.quiet) (kw_check F hT cl ?_)
  refine kw_new F hT cl ?_ len
  show wpAny _ _ _ _ _ _
  have keep : ∀ b o, h.get? b = some o → ((h.push (W.kdv_tup us)).push (PX.excO C h.objs.size)).get? b = some o := fun b o e =>
    Heap.get?_push_of_some _ (Heap.get?_push_of_some _ e)
  have cl1 := keep _ _ cl
  have new : ((h.push (W.kdv_tup us)).push (PX.excO C h.objs.size)).get? (h.objs.size + 1) = some (PX.excO C h.objs.size) := by heap_get
  have self : (Value.ref C :: bm).contains (.ref C) = true := by simp
  have i1 := hi.keeps keep
  have b1 := (hb (.ref (h.objs.size + 1))).keeps keep
  unfold isInstance
  repeat (first
    | with_reducible refine wpAny_loadPart_at new ?_
    | (with_reducible refine wpAny_isSubtype_exc cl1 ?_; rw [self])
    | wp_step)
  show wpAny _ _ (typeLookup (.ref C) _) _ _ _
  refine i1.at ?_
  refine wpAny_holding (wpAny_bind (b1.at ?_))
  refine wpAny_bind (wpAny_call (codeAny_mono z fun r s' y => ?_))
  rcases r with e | (v | _ | _ | _) <;> first | exact y | exact y.elim | skip
  obtain ⟨rfl, y⟩ := y
  first
    | exact wpAny_pure (wpAny_pure y)
    | (wp_walk; exact y)
theorem kw_call (F : ExcBaseFacts B newId initId bmB) (hT : ∀ X : String, bm.contains (.type X) = bmB.contains (.type X)) {us : List Value} {kw : List (Str × Value)} {fI : Addr}
    (cl : h.get? C = some (excClassObj nm q C N bs bm hdct sn sub ab col dd k0 k1 k2 k3 k5 newId))
    (hi : W.Looks (model prog w) h (typeLookup (.ref C) "__init__") (some (.ref fI))) (hb : ∀ self, W.Looks (model prog w) h (bindSpecial (.ref fI) self) (.ref fI, [self]))
    (len : us.length ≤ sizeLine)
    (z : codeAny (model prog w) (A.under (.builtin "type.__call__" ⟨.ref C :: us, kw⟩)) (.call (.ref fI) ⟨.ref (h.objs.size + 1) :: us, kw⟩) (W.InitBack (h.objs.size + 1) R)
      ⟨(h.push (W.kdv_tup us)).push (PX.excO C h.objs.size), g, d, t, os⟩) :
    codeAny (model prog w) A (.call (.ref C) ⟨us, kw⟩) R ⟨h, g, d, t, os⟩ := by
  have f1 := tc_lookup
  have f2 := tc_bind (.ref C)
  have ty : (⟨h, g, d, t, os⟩ : Shared).TypeIs (.ref C) "type" := ⟨_, cl, rfl⟩
  refine codeAny_of_tree ?_
  show wpAny _ _ (callAny (.ref C) _) _ _ _
  repeat (any_goals (first | assumption | with_reducible refine wpAny_loadPart_at cl ?_ | wp_step))
  refine ⟨rfl, ?_⟩
  refine codeAny_call_builtin_at (Code.quiet_builtin _ (by decide +kernel)) entry_typeCall (wpAny_check_type_call_sub cl (kw_type F hT cl hi hb len ?_))
  refine codeAny_mono z fun r s' y => ?_
  rcases r with e | (v | _ | _ | _) <;> exact y
end
end Xg
end PySem

/-! Own exception classes over any built-in base, made as values: by position, by name; their fields stored and read; isinstance. -/
namespace PySem
namespace Xg
open PySem.W PySem.Calls PyProof.Rows Builtin Builtin.ObjectAttr
section
variable {prog : Program} {w : World} {A : Around} {R : Result → Shared → Prop} {hp : Heap} {g : Array GenState} {d : Drawn} {t : Nat} {os : OsState} {K : Frag} {B : String} {bmB : List Value}
/-- the first field: the dict is made -/
theorem osa_first (SF : StoreFacts B bmB "object.__setattr__" "object") {name : Str} {tk : Tok} {v : Value} {x C t1 : Addr} (kin : K.In hp)
    (at_ : hp.get? x = some (PX.excO C t1)) (ov : excOver K C bmB = true) (no : takerIn K C name = some none) (hh : hasDictIn K C = true)
    (z : ∀ h' tk' dx, (∀ b o, b ≠ x → hp.get? b = some o → h'.get? b = some o) → hp.objs.size ≤ dx → dx ≠ x →
      h'.get? x = some { PX.excO C t1 with dict := some dx } → h'.Ns1 dx (fun y => if y = name then some v else none) → R (.ok (.ret .none)) ⟨h', g, d, tk', os⟩) :
    codeAny (model prog w) A (.call (.builtin "object.__setattr__") ⟨[.ref x, .str name tk, v], []⟩) R ⟨hp, g, d, t, os⟩ := by
  obtain ⟨cd, hc, hd'⟩ := any_some hh
  have lt := Heap.lt_size at_
  refine osa_openX (od := none) (s := ⟨hp, g, d, t, os⟩) SF kin ⟨at_, rfl, rfl, trivial⟩ ov no fun b => ?_
  refine wpAny_bind (wpAny_pure (wpAny_bind (instanceDict_exc (s := ⟨hp, g, d, t, os⟩) (c2 := .none) at_ (looks_clsIn kin hc) hd' ?_)))
  show wpAny _ _ (storeInDict hp.objs.size (.str name tk) name v) _ _ _
  refine HandSPX.store_in_new ?_ fun h' tk' hn hs => ?_
  · exact ⟨_, #[], _, (Heap.get?_update_ne _ _ _ _ (Nat.ne_of_gt lt)).trans (Heap.get?_push_at rfl rfl), rfl, fun e he => absurd he (by simp), fun _ => rfl⟩
  · refine z h' tk' hp.objs.size (fun b o nb e => ?_) (Nat.le_refl _) (Nat.ne_of_gt lt) ?_ hn
    · rw [hs.2 b (Nat.ne_of_lt (Heap.lt_size e)), Heap.get?_update_ne _ _ _ _ nb]
      exact Heap.get?_push_of_some _ e
    · rw [hs.2 x (Nat.ne_of_lt lt)]
      exact Heap.get?_update_self _ (Heap.get?_push_of_some _ at_) rfl
/-- a further field -/
theorem osa_next (SF : StoreFacts B bmB "object.__setattr__" "object") {name : Str} {tk : Tok} {v : Value} {x C t1 dx : Addr} {m0 : Str → Option Value} {nl : List Str} (kin : K.In hp)
    (at_ : hp.get? x = some { PX.excO C t1 with dict := some dx }) (ns : hp.Ns1 dx m0) (wi : Within m0 nl) (few : nl.length ≤ 1000)
    (ov : excOver K C bmB = true) (no : takerIn K C name = some none) (hh : hasDictIn K C = true)
    (z : ∀ h' tk', (∀ b o, b ≠ dx → hp.get? b = some o → h'.get? b = some o) → h'.Ns1 dx (fun y => if y = name then some v else m0 y) → R (.ok (.ret .none)) ⟨h', g, d, tk', os⟩) :
    codeAny (model prog w) A (.call (.builtin "object.__setattr__") ⟨[.ref x, .str name tk, v], []⟩) R ⟨hp, g, d, t, os⟩ := by
  obtain ⟨cd, hc, hd'⟩ := any_some hh
  obtain ⟨oD, _, _, gD, _, _⟩ := ns.count wi
  refine osa_openX (od := some oD) (s := ⟨hp, g, d, t, os⟩) SF kin ⟨at_, rfl, rfl, gD⟩ ov no fun b => ?_
  refine wpAny_bind (wpAny_pure (wpAny_bind (wpAny_bind (wpAny_loadPart at_ (wpAny_bind ((looks_clsIn kin hc).here ?_))))))
  rw [hd']
  refine wpAny_pure (a := some dx) ?_
  exact OEX.store_in_old ns wi few fun h' tk' hn hs => z h' tk' (fun b o nb e => (hs.2 b nb).trans e) hn
end
end Xg
end PySem

namespace Xl
open PySem PySem.Spec PyProof.Rows L2 Gy
/-- what the written part says of an own exception class at C -/
structure XCl (K : PySem.W.Frag) (C : Addr) : Prop where
  base : ∃ B newId initId bmB, ExcBaseFacts B newId initId bmB ∧ StoreFacts B bmB "object.__setattr__" "object" ∧ PySem.W.excInitIn K C bmB newId = true ∧ PySem.W.excOver K C bmB = true
  sa : PySem.W.findIn K (.ref C) "__setattr__" = some (some (.builtin "object.__setattr__"))
  ga : PySem.W.findIn K (.ref C) "__getattribute__" = some (some (.builtin "BaseException.__getattribute__"))
  gg : PySem.W.findIn K (.ref C) "__getattr__" = some none
  ca : PySem.W.findIn K (.ref C) "__class__" = some (some (.builtin "object.__class__"))
  ex : PySem.W.subIn K (.ref C) (.type "BaseException") = some true
  ob : PySem.W.mroIn K C (.type "object") = some true
  hd : PySem.W.hasDictIn K C = true
  kp : PySem.W.keepIn K (.ref C) = true
/-- its __init__ stands at fI -/
structure XIn (K : PySem.W.Frag) (C fI : Addr) : Prop extends XCl K C where
  ini : PySem.W.findIn K (.ref C) "__init__" = some (some (.ref fI))
  tf : PySem.W.typeIn K (.ref fI) = some (.type "function")
section
variable {X : Cx} {pins : List (Addr × Obj)} {σ : L2.St} {H : Hp} {s : Shared} {a C dx : Addr} {f : Str} {y : V} {u : Value} {fs : List (Str × V)} {Q : Unit → Shared → Prop} {E : Value → Shared → Prop} {A : Around}
theorem set_new (T : XCl X.K C) (I : Inv X pins σ H s) (e : H a = some (exo a C none)) (no : PySem.W.findIn X.K (.ref C) f = some none) (ry : RelV y u)
    (z : ∀ dx s', H dx = none → dx ≠ a → Inv X pins σ (upd (upd H dx (exd dx [(f, y)])) a (exo a C (some dx))) s' → Q () s') :
    wpAny (model X.prog X.w) A (setAttr (.ref a) f u) Q E s := by
  obtain ⟨B, nI, iI, bmB, _, SF, _, ov⟩ := T.base
  obtain ⟨t1, at_⟩ := exo_at I.hok e
  obtain ⟨hp, g, d, t, os⟩ := s
  have tk : PySem.W.takerIn X.K C f = some none := by
    unfold PySem.W.takerIn
    rw [no]
    rfl
  refine PySem.W.set_plain I.kIn (od := none) ⟨at_, rfl, rfl, trivial⟩ T.sa ?_
  refine PySem.Xg.osa_first SF I.kIn at_ ov tk T.hd ?_
  intro h' tk' dx keep big ne atX ns
  have free : H dx = none := I.hok.fresh big
  have old : ∀ {b o}, hp.get? b = some o → b ≠ dx := fun q => Nat.ne_of_lt (Nat.lt_of_lt_of_le (Heap.lt_size q) big)
  have noA : ∀ {b}, H b = none → b ≠ a := fun {b} n y => by
    rw [y, e] at n
    cases n
  have other : ∀ {b o}, H b = some o → o ≠ exo a C none → upd (upd H dx (exd dx [(f, y)])) a (exo a C (some dx)) b = some o := by
    intro b o q ne'
    have nb : b ≠ a := fun y => by
      rw [y, e] at q
      exact ne' (Option.some.inj q).symm
    rw [upd_ne nb, upd_ne (ne_of_none q free)]
    exact q
  have U : Un X.fs [] H (upd (upd H dx (exd dx [(f, y)])) a (exo a C (some dx))) hp h' := by
    refine ⟨fun b o q n _ _ => keep b o (noA n) q, fun b o q n _ _ => ⟨o.slots, keep b o (noA n) q⟩, fun b o q n _ => ?_, fun b o q _ => ?_, fun b xs q => ?_, fun b o v q => ?_, fun b ps q => ⟨#[], ?_⟩⟩
    · rw [upd_ne (noA n), upd_ne (old q)]
      exact n
    · by_cases nb : b = a
      · exact ⟨_, by rw [nb]; exact atX⟩
      · exact ⟨o, keep b o nb q⟩
    · exact other q (fun y => exo_tup y.symm)
    · exact other q (fun y => exo_frz y.symm)
    · rw [other q (fun y => exo_tbl y.symm)]
      simp
  refine z dx _ free ne (I.un (t' := tk') U ?_)
  intro b o q
  by_cases nb : b = a
  · subst nb
    rw [upd_same] at q
    cases q
    exact exo_ok atX
  · rw [upd_ne nb] at q
    by_cases nd : b = dx
    · subst nd
      rw [upd_same] at q
      cases q
      exact exd_ok ns (relO_put (fs := []) ry fun _ => True.intro)
    · rw [upd_ne nd] at q
      refine (I.hok b o q).stay (fun c v hc y => keep c v ?_ y) (fun c hc => other hc (fun y => exo_own y.symm)) (fun c xs hc => other hc (fun y => exo_tup y.symm))
      rcases hc with hc | hc
      · rw [hc]
        exact nb
      · exact at_ne e hc exo_own
theorem set_more (T : XCl X.K C) (I : Inv X pins σ H s) (e : H a = some (exo a C (some dx))) (ed : H dx = some (exd dx fs)) (few : fs.length ≤ 900) (no : PySem.W.findIn X.K (.ref C) f = some none) (ry : RelV y u)
    (z : ∀ s', Inv X pins σ (upd H dx (exd dx ((f, y) :: fs))) s' → Q () s') : wpAny (model X.prog X.w) A (setAttr (.ref a) f u) Q E s := by
  obtain ⟨B, nI, iI, bmB, _, SF, _, ov⟩ := T.base
  obtain ⟨t1, at_⟩ := exo_at I.hok e
  obtain ⟨mA, ns, rel⟩ := exd_at I.hok ed
  have wi := within_of rel
  obtain ⟨hp, g, d, t, os⟩ := s
  obtain ⟨oD, _, _, gD, _, _⟩ := ns.count wi
  have tk : PySem.W.takerIn X.K C f = some none := by
    unfold PySem.W.takerIn
    rw [no]
    rfl
  refine PySem.W.set_plain I.kIn (od := some oD) ⟨at_, rfl, rfl, gD⟩ T.sa ?_
  refine PySem.Xg.osa_next SF I.kIn at_ ns wi (by rw [List.length_map]; omega) ov tk T.hd ?_
  intro h' tk' keep hn
  have there : ∃ o, h'.get? dx = some o := by
    obtain ⟨o, _, _, q, _⟩ := hn
    exact ⟨o, q⟩
  exact z _ (I.write (t' := tk') (x := dx) (e := dx) (o := exd dx ((f, y) :: fs)) (by rw [ed]; trivial) (.inl rfl) keep there (exd_ok hn (relO_put ry rel)))
end
/-! ### readings and rules -/
/-- self.f = e in such an __init__ -/
def tXs (K : PySem.W.Frag) (f : Str) (to te : TE) : TS := fun D σ H => te σ H fun y H1 => to σ H1 fun x H2 => ∃ a C : Addr, x = .ref a ∧ XCl K C ∧ PySem.W.findIn K (.ref C) f = some none ∧
  ((H2 a = some (exo a C none) ∧ ∀ dx, H2 dx = none → dx ≠ a → D.nx σ (upd (upd H2 dx (exd dx [(f, y)])) a (exo a C (some dx)))) ∨
    ∃ (dx : Addr) (fs : List (Str × V)), H2 a = some (exo a C (some dx)) ∧ H2 dx = some (exd dx fs) ∧ fs.length ≤ 900 ∧ D.nx σ (upd H2 dx (exd dx ((f, y) :: fs))))
/-- C(..): the object made, then __init__ -/
def tXm (C : Addr) (sp : Sp) (gV : List V → List V → List V) (t tk : TA) : TE := fun σ H Q => t σ H fun vs H0 => tk σ H0 fun zs H1 => vs.length ≤ 1000 ∧ ∀ a, H1 a = none →
  sp (.ref a :: gV vs zs) (upd H1 a (exo a C none)) (fun v H2 => v = .non ∧ Q (.ref a) H2) (fun _ _ _ => False)
section
variable {X : Cx} {o e : Expr} {es : List Expr} {kws : List Keyword} {to te : TE} {t tk : TA} {f : Str} {p p' pos : Pos}
theorem ps_xs (ho : PE X o to) (he : PE X e te) (hs : swapsWith e (some (.Attribute o f p')) pos.line X.env = pure false := by rfl) : PS X (.Assign [.Attribute o f p'] e pos) (tXs X.K f to te) := by
  constructor
  intro pins s σ H D I h
  refine plainObj_wpAny_Assign_Attribute (thn (he.run pins s σ H _ I h) ?_) hs
  rintro v s1 ⟨y, H1, I1, r1, q1⟩
  refine thn (ho.run pins s1 σ H1 _ I1 q1) ?_
  rintro u s2 ⟨x, H2, I2, r2, a, C, rfl, T, no, q⟩
  cases r2
  rcases q with ⟨ea, q⟩ | ⟨dx, fs, ea, ed, few, q⟩
  · exact set_new T I2 ea no r1 fun dx s' n ne J => ⟨σ, _, J, q dx n ne⟩
  · exact set_more T I2 ea ed few no r1 fun s' J => ⟨σ, _, J, q⟩
/-- how positional values and keywords come to __init__'s parameters -/
structure XB (K : PySem.W.Frag) (fd : FuncData) (ps ks : List Str) (g : List Value → List Value → List Value) (gV : List V → List V → List V) : Prop where
  to : ∀ (s : Shared) (b : Value) (us ws : List Value), K.In s.heap → (b :: g us ws).length = ps.length → BindsTo s fd ⟨b :: us, ks.zip ws⟩ (ps.zip (b :: g us ws))
  rel : ∀ {vs : List V} {us : List Value} {zs : List V} {ws : List Value}, Vals vs us → Vals zs ws → Vals (gV vs zs) (g us ws)
variable {CX : CXT} {C fI : Addr} {k : Nat} {fd : FuncData} {ps ks : List Str} {sp : Sp} {g : List Value → List Value → List Value} {gV : List V → List V → List V} {x : Str}
theorem run_x {pins : List (Addr × Obj)} {σ : L2.St} {H : Hp} {s : Shared} {Q : VK} {us ws : List Value} {vs zs : List V} (T : XIn X.K C fI) (F : FnOk X.prog X.w X.K X.mg X.base CX k fI fd ps sp) (hr : Room (k + 1) X.A)
    (hb : XB X.K fd ps ks g gV) (hx : Passes CX X (fun _ _ _ => False)) (I : Inv X pins σ H s) (r : Vals vs us) (rz : Vals zs ws) (len : vs.length ≤ 1000)
    (h : ∀ a, H a = none → sp (.ref a :: gV vs zs) (upd H a (exo a C none)) (fun v H2 => v = .non ∧ Q (.ref a) H2) (fun _ _ _ => False)) :
    wpAny (model X.prog X.w) X.A (call (.ref C) us (ks.zip ws)) (EP X pins σ Q) X.xe s := by
  obtain ⟨B, nI, iI, bmB, BF, _, ii, _⟩ := T.base
  obtain ⟨nm, N', qn, bs, bm, hdct, sn, sub, ab, col, dd, k0, k1, k2, k3, k5, cl, hT⟩ := PySem.W.excInit_of I.kIn ii
  obtain ⟨hp, g', dr, tk', os⟩ := s
  have big : hp.objs.size ≤ hp.objs.size + 1 := Nat.le_succ _
  have hq := h (hp.objs.size + 1) (I.hok.fresh big)
  have keep : ∀ b o, hp.get? b = some o → ((hp.push (PySem.W.kdv_tup us)).push (PySem.PX.excO C hp.objs.size)).get? b = some o := fun b o e =>
    Heap.get?_push_of_some _ (Heap.get?_push_of_some _ e)
  have new : ((hp.push (PySem.W.kdv_tup us)).push (PySem.PX.excO C hp.objs.size)).get? (hp.objs.size + 1) = some (PySem.PX.excO C hp.objs.size) := by heap_get
  have I2 := I.laid (t' := tk') (a := hp.objs.size + 1) (o := exo (hp.objs.size + 1) C none) keep big (exo_ok new)
  have r2 : Vals (V.ref (hp.objs.size + 1) :: gV vs zs) (Value.ref (hp.objs.size + 1) :: g us ws) := .cons rfl (hb.rel r rz)
  have bl := hb.to ⟨_, g', dr, tk', os⟩ (Value.ref (hp.objs.size + 1)) us ws I2.kIn (by rw [← r2.length]; exact F.len _ _ _ _ hq)
  refine wpAny_call (PySem.Xg.kw_call BF hT cl (PySem.W.looks_findIn I.kIn T.ini) (fun self => PySem.W.bind_fn I.kIn self T.tf) ?_ (codeAny_mono (F.run _ X.stack _ _ _ _ _ _ _ (hr.make C us (ks.zip ws)) (I2.env0.make C us (ks.zip ws)) bl r2 hq) ?_))
  · rw [← r.length, sizeLine_eq]
    omega
  · rintro (er | (_ | _ | _ | u)) s' z
    · exact hx pins σ _ _ er s' I2 z
    · exact z.elim
    · exact z.elim
    · exact z.elim
    · obtain ⟨v, H', I3, rv, ev, q3⟩ := I2.after z
      subst ev
      exact ⟨rv, V.ref (hp.objs.size + 1), H', I3, rfl, q3⟩
theorem pe_xm (T : XIn X.K C fI) (F : FnOk X.prog X.w X.K X.mg X.base CX k fI fd ps sp) (hr : Room (k + 1) X.A) (hg : Gl X x) (hm : X.mg x = some (.ref C)) (hb : XB X.K fd ps [] g gV) (hx : Passes CX X (fun _ _ _ => False))
    (ha : PA X (e :: es) t) (hdb : (x == ("__debug__" : Str)) = false := by decide) (he : starEach (e :: es) X.env = (false, eval e X.env) :: starEach es X.env := by rfl)
    (hpl : (backTo pos (starEach es X.env)).any (·.1) = false := by rfl) : PE X (.Call (.Name x p) (e :: es) [] pos) (tXm C sp gV t tNil) := by
  constructor
  intro pins s σ H Q I h
  refine wpAny_Call_Name_kw (ld_glob I hg hm ?_ hdb)
  refine PySem.W.callWith_K (h₀ := X.base) I.ok.mod.kin T.kp (thn (ha.run pos pins s σ H _ I h) ?_) he hpl
  rintro us s1 ⟨vs, H1, I1, r, q⟩
  obtain ⟨len, q⟩ := q
  exact ⟨I1.kIn, run_x (ks := []) (ws := []) T F hr hb hx I1 r .nil len q⟩
theorem pe_xm0 (T : XIn X.K C fI) (F : FnOk X.prog X.w X.K X.mg X.base CX k fI fd ps sp) (hr : Room (k + 1) X.A) (hg : Gl X x) (hm : X.mg x = some (.ref C)) (hb : XB X.K fd ps [] g gV) (hx : Passes CX X (fun _ _ _ => False))
    (hdb : (x == ("__debug__" : Str)) = false := by decide) : PE X (.Call (.Name x p) [] [] pos) (tXm C sp gV tNil tNil) := by
  constructor
  intro pins s σ H Q I h
  obtain ⟨len, q⟩ := h
  refine wpAny_Call_Name_kw (ld_glob I hg hm ?_ hdb)
  exact PySem.W.callWith_K0 I.kIn T.kp (run_x (us := []) (ks := []) (ws := []) T F hr hb hx I .nil .nil len q)
theorem pe_xk (T : XIn X.K C fI) (F : FnOk X.prog X.w X.K X.mg X.base CX k fI fd ps sp) (hr : Room (k + 1) X.A) (hg : Gl X x) (hm : X.mg x = some (.ref C)) (hb : XB X.K fd ps ks g gV) (hx : Passes CX X (fun _ _ _ => False))
    (hkw : PK X kws tk) (hall : (backToKw pos (keywordEach kws X.env)).all (·.1.isSome) = true := by rfl) (hks : (backToKw pos (keywordEach kws X.env)).filterMap (·.1) = ks := by rfl)
    (hdb : (x == ("__debug__" : Str)) = false := by decide)
    (hpl : ((backTo pos (starEach [] X.env)).any (·.1) || (backToKw pos (keywordEach kws X.env)).any (·.1.isNone)) = false := by rfl) :
    PE X (.Call (.Name x p) [] kws pos) (tXm C sp gV tNil tk) := by
  constructor
  intro pins s σ H Q I h
  refine wpAny_Call_Name_kw (ld_glob I hg hm ?_ hdb)
  refine PySem.W.callWith_KW0 (h₀ := X.base) I.ok.mod.kin T.kp hall (thn (hkw.run pos pins s σ H _ I h) ?_) hpl
  rintro ws s2 ⟨zs, H2, I2, rz, len, q2⟩
  rw [hks]
  exact ⟨I2.kIn, run_x (us := []) T F hr hb hx I2 .nil rz len q2⟩
/-- an exception of the class C stands at a, its fields fs -/
def XAt (K : PySem.W.Frag) (H : Hp) (a C : Addr) (fs : List (Str × V)) : Prop := XCl K C ∧ ((fs = [] ∧ H a = some (exo a C none)) ∨ ∃ d, H a = some (exo a C (some d)) ∧ H d = some (exd d fs))
/-- e.f -/
def tXf1 (K : PySem.W.Frag) (f : Str) (te : TE) : TE := fun σ H Q => te σ H fun x H1 => ∃ (a C : Addr) (fs : List (Str × V)) (v : V), x = .ref a ∧ XAt K H1 a C fs ∧ PySem.W.findIn K (.ref C) f = some none ∧ fs.lookup f = some v ∧ Q v H1
theorem pe_xf1 {n : Str} (he : PE X e te) (hb : attributeBase e n X.env (eval e X.env) = eval e X.env := by rfl) : PE X (.Attribute e n pos) (tXf1 X.K n te) := by
  constructor
  intro pins s σ H Q I h
  refine attr_of hb (thn (he.run pins s σ H _ I h) ?_)
  rintro u s1 ⟨x, H1, I1, rx, a, C, fs, v, rfl, ⟨T, at_⟩, no, l, q⟩
  cases rx
  rcases at_ with ⟨rfl, _⟩ | ⟨d, ea, ed⟩
  · cases l
  · obtain ⟨t1, ga⟩ := exo_at I1.hok ea
    obtain ⟨mA, ns, rel⟩ := exd_at I1.hok ed
    obtain ⟨od, go, hl⟩ := lookIn_ns ns
    obtain ⟨u, hu, ru⟩ := RelO.some_of (v := v) (o := mA n) (by rw [← l]; exact rel n)
    exact PySem.PX.exc_get I1.kIn (od := some od) ⟨ga, rfl, rfl, go⟩ T.ga T.gg T.ex (PySem.W.findObj_own T.hd no rfl (by rw [hl, hu])) (handed_of ru) ⟨v, H1, I1.tok _, ru, q⟩
/-- isinstance(e, c) -/
def rIsX (K : PySem.W.Frag) : List V → Hp → VK → Prop := fun xs H Q => ∃ (a C : Addr) (fs : List (Str × V)) (c : V) (cv : Value) (b : Bool), xs = [.ref a, c] ∧ XAt K H a C fs ∧ ClsV c cv ∧ PySem.W.kitOne K (.ref C) cv = some b ∧ Q (.bl b) H
theorem call_isX (cg : PySem.W.specialIn X.K (.builtin "object.__class__") "__get__" = some (some (.builtin "getset_descriptor.__get__"))) (ct : PySem.W.takesIn X.K (.builtin "object.__class__") = some true) :
    CallR X (.builtin "isinstance") (rIsX X.K) := by
  intro pins s σ H xs us Q I r h
  obtain ⟨a, C, fs, c, cv, b, rfl, ⟨T, at_⟩, hc, e, q⟩ := h
  obtain ⟨u1, u2, rfl, r1, r2⟩ := vals2 r
  cases r1
  have e2 := hc.eq r2
  subst e2
  have cls : (PySem.W.clsIn X.K C).isSome = true := by
    obtain ⟨cd, z, _⟩ := PySem.W.any_some T.hd
    rw [z]
    rfl
  have inst : ∃ ox od, PySem.W.InstAt s.heap a ox C od := by
    rcases at_ with ⟨_, ea⟩ | ⟨d, ea, ed⟩
    · obtain ⟨t1, ga⟩ := exo_at I.hok ea
      exact ⟨_, none, ga, rfl, rfl, trivial⟩
    · obtain ⟨t1, ga⟩ := exo_at I.hok ea
      obtain ⟨mA, ns, rel⟩ := exd_at I.hok ed
      obtain ⟨od, go, hl⟩ := lookIn_ns ns
      exact ⟨_, some od, ga, rfl, rfl, go⟩
  obtain ⟨ox, od, J⟩ := inst
  exact PySem.W.kia_one (PySem.W.kitx_exc cls T.ga T.gg T.ex T.ca cg ct T.ob) I.kIn J e (fun z => nomatch z) fun tk => ⟨.bl b, H, I.tok tk, rfl, q⟩
/-- C(e, ..) of a class without an __init__ of its own -/
def tXb (C : Addr) (t : TA) : TE := fun σ H Q => t σ H fun vs H1 => vs.length ≤ 1000 ∧ ∀ a, H1 a = none → Q (.ref a) (upd H1 a (exo a C none))
theorem pe_xb (T : XCl X.K C) (hi : ∃ B newId initId bmB, ExcBaseFacts B newId initId bmB ∧ PySem.W.excInitIn X.K C bmB newId = true ∧ PySem.W.findIn X.K (.ref C) "__init__" = some (some (.builtin initId)))
    (hg : Gl X x) (hm : X.mg x = some (.ref C)) (ha : PA X (e :: es) t) (hdb : (x == ("__debug__" : Str)) = false := by decide)
    (he : starEach (e :: es) X.env = (false, eval e X.env) :: starEach es X.env := by rfl) (hpl : (backTo pos (starEach es X.env)).any (·.1) = false := by rfl) :
    PE X (.Call (.Name x p) (e :: es) [] pos) (tXb C t) := by
  constructor
  intro pins s σ H Q I h
  obtain ⟨B, nI, iI, bmB, BF, ii, fi⟩ := hi
  refine wpAny_Call_Name_kw (ld_glob I hg hm ?_ hdb)
  refine PySem.W.callWith_K (h₀ := X.base) I.ok.mod.kin T.kp (thn (ha.run pos pins s σ H _ I h) ?_) he hpl
  rintro us s1 ⟨vs, H1, I1, r, len, q⟩
  refine ⟨I1.kIn, ?_⟩
  obtain ⟨nm, N', qn, bs, bm, hdct, sn, sub, ab, col, dd, k0, k1, k2, k3, k5, cl, hT⟩ := PySem.W.excInit_of I1.kIn ii
  have lk := PySem.W.looks_findIn (M := model X.prog X.w) I1.kIn fi
  obtain ⟨hp, g', dr, tk', os⟩ := s1
  show wpAny _ _ (call (.ref C) us) _ _ _
  refine PySem.W.call_B BF hT cl lk (by rw [← r.length, sizeLine_eq]; omega) fun h' keep new _ => ?_
  exact ⟨V.ref (hp.objs.size + 1), _, I1.laid (t' := tk') keep (Nat.le_succ _) (exo_ok new), rfl, q _ (I1.hok.fresh (Nat.le_succ _))⟩
end
end Xl

namespace Gy
open PySem PySem.Spec PyProof.Rows L2
/-- data, or a dict without entries, or one whose only key is the text k and whose value is an int -/
inductive Dz (K : PySem.W.Frag) (H : Hp) : V → PyData → Prop
  | dat {v : V} {d : PyData} (h : Dp K H v d) (n : d.hasDict = false) : Dz K H v d
  | d0 {a : Addr} (h : H a = some (.dK [])) : Dz K H (.ref a) (.dict [])
  | d1 {a : Addr} {k : Str} {i : Int} (h : H a = some (.dK [(Sum.inr k, .int i)])) : Dz K H (.ref a) (.dict [(.str k, .int i)])
theorem Dz.reads {X : Cx} {pins : List (Addr × Obj)} {σ : L2.St} {H : Hp} {s : Shared} (I : Inv X pins σ H s) {v : V} {d : PyData} {u : Value} (h : Dz X.K H v d) (r : RelV v u) :
    ∃ as, Reads s.heap u d as ∧ (d.hasDict = true → sysModules ∉ as) := by
  cases h with
  | dat h n =>
    obtain ⟨as, z⟩ := Dp.reads I d v u h r
    exact ⟨as, z, fun q => by rw [n] at q; cases q⟩
  | @d0 a h =>
    cases r
    obtain ⟨_, ns, vs, kv, o, es, ep, g1, ex, g2, ks, ps, _⟩ := (show ObjOk X.prog X.w H s.heap a (.dK []) from I.hok a _ h)
    cases kv
    have e : es.toList = [] := by
      generalize es.toList = l at ps
      cases ps
      rfl
    refine ⟨_, .dict g1 ex.1 g2 (as := []) (bs := []) (by rw [e]; exact .nil) (by rw [e]; exact .nil), fun _ q => ?_⟩
    rw [List.append_nil, List.mem_singleton] at q
    rw [← q] at ns
    cases ns
  | @d1 a k i h =>
    cases r
    obtain ⟨_, ns, vs, kv, o, es, ep, g1, ex, g2, ks, ps, _⟩ := (show ObjOk X.prog X.w H s.heap a (.dK [(Sum.inr k, .int i)]) from I.hok a _ h)
    obtain ⟨t1, t2, e1, e2⟩ : ∃ t1 t2, es.toList.map (·.key) = [.str k t1] ∧ es.toList.map (·.val) = [.int i t2] := by
      generalize es.toList = l at ps
      cases kv with
      | cons hk hr =>
        cases hr
        obtain ⟨h1, h2⟩ := hk
        cases ps with
        | cons p1 p2 p3 =>
          cases p3
          rw [← h1] at p1
          rcases keyIs_shape (show keyIs (Sum.inr k) _ = true from p1) with ⟨j, t, q, _⟩ | ⟨x, t, q, q2⟩
          · cases q
          · cases q
            obtain ⟨t2, h2⟩ := h2
            refine ⟨t, t2, ?_, ?_⟩
            · rw [List.map_singleton, q2]
            · rw [List.map_singleton, p2, h2]
    refine ⟨_, .dict g1 ex.1 g2 (as := [] ++ []) (bs := [] ++ []) (by rw [e1]; exact .cons (.str k t1) .nil) (by rw [e2]; exact .cons (.int i t2) .nil), fun _ q => ?_⟩
    have q' : sysModules ∈ [a] := q
    rw [List.mem_singleton] at q'
    rw [← q'] at ns
    cases ns
/-- each of them shown -/
theorem shows_all {X : Cx} {pins : List (Addr × Obj)} {σ : L2.St} {H : Hp} {s : Shared} (I : Inv X pins σ H s) : ∀ {vs : List V} {ds : List PyData} {us : List Value}, Paired (Dz X.K H) vs ds → Vals vs us →
    PyData.showableAll ds = true → (∀ t ∈ PyData.shownAll ds, t.length ≤ sizeLine) →
    ∃ as bs, ReadsAll s.heap us ds as ∧ ReadAtMost s.heap (PyData.depthAll ds) bs ∧ ReprAllK X.prog X.w bs s.heap (PyData.depthAll ds) us (PyData.shownAll ds)
  | _, _, _, .nil, .nil, _, _ => ⟨[], [], .nil, (fun _ h => nomatch h), .nil⟩
  | _, _, _, .cons (b := d) (l₂ := ds) h hs, .cons r rs, sh, len => by
    have sh2 : d.showable = true ∧ PyData.showableAll ds = true := by simpa only [PyData.showableAll, Bool.and_eq_true] using sh
    obtain ⟨as, rd, no⟩ := h.reads I r
    obtain ⟨b1, m1, k1⟩ := ReprK.of_reads (prog := X.prog) (w := X.w) rd sh2.1 no (len _ List.mem_cons_self)
    obtain ⟨as2, b2, rd2, m2, k2⟩ := shows_all I hs rs sh2.2 fun t ht => len t (List.mem_cons_of_mem _ ht)
    have l1 : d.depth ≤ PyData.depthAll (d :: ds) := Nat.le_max_left _ _
    have l2 : PyData.depthAll ds ≤ PyData.depthAll (d :: ds) := Nat.le_max_right _ _
    refine ⟨as ++ as2, b1 ++ b2, .cons rd rd2, (m1.mono l1).append (m2.mono l2), ?_⟩
    exact .cons ((k1.more fun b hb => List.mem_append_left _ hb).level_le l1) (k2.more_le (fun b hb => List.mem_append_right _ hb) l2)
/-- repr of a list of such values -/
def rRepr (K : PySem.W.Frag) : List V → Hp → VK → Prop := fun xs H Q => ∃ l vs ds, xs = [.ref l] ∧ SqL K H l vs ∧ vs ≠ [] ∧ Paired (Dz K H) vs ds ∧ PyData.showableAll ds = true ∧ PyData.depthAll ds ≤ 60 ∧
  (listText (PyData.shownAll ds)).length ≤ sizeLine ∧ Q (.str (listText (PyData.shownAll ds))) H
theorem repr_dz {X : Cx} (hg : X.A.guards = some []) (hu : X.A.units + 70 < cLine) : CallR X (.builtin "repr") (rRepr X.K) := by
  intro pins s σ H xs us Q I r h
  obtain ⟨l, vs, ds, rfl, sq, nn, dz, sh, dp, len, q⟩ := h
  obtain ⟨u, rfl, ru⟩ := vals1 r
  cases ru
  obtain ⟨its, rv, ⟨o, n, g1, g2, _, g3⟩, _⟩ := I.list sq
  obtain ⟨as, bs, rd, at_, sw⟩ := shows_all I dz rv sh fun t ht => Nat.le_trans (listText_mem_le ht) len
  have out : l ∉ bs := not_mem_of_deeper (.list g1 g2 g3 rd) (by simp only [PyData.depth]; omega) at_
  match its, nn, rv, g3, rd, sw with
  | [], nn, rv, _, _, _ =>
    cases rv
    exact absurd rfl nn
  | x :: rest, _, _, g3, _, sw =>
    refine call_repr_slot (T := "list") (idr := "list.__repr__") (by omega) ⟨o, g1, g2⟩ F.slot_list_repr.toG ?_
    refine call_list_reprK g1 g2 g3 out (by simpa using sw.length_eq) (fun i y e => sw.item i y (by simpa using e)) (g := []) hg (fun b _ => Clear.nil b) (d := PyData.depthAll ds) ?_ (fun _ _ e => e) (fun h' u tk hk => ?_) len
    · show X.A.units + 1 + (PyData.depthAll ds + 1) < cLine
      omega
    · exact ⟨_, _, rfl, .str _, H, I.kept hk, ⟨u, rfl⟩, q⟩
end Gy

/-! Own exceptions over any base raised and caught: one field; several clauses with a name. -/
namespace Xl
open PySem PySem.Spec PyProof.Rows L2 Gy
/-- an __init__ of one field f -/
def spI1 (C : Addr) (f : Str) : Sp := fun vs H Q _ => ∃ (a : Addr) (v : V), vs = [.ref a, v] ∧ H a = some (exo a C none) ∧ ∀ dx, H dx = none → dx ≠ a → Q .non (upd (upd H dx (exd dx [(f, v)])) a (exo a C (some dx)))
theorem del_made {H : Hp} {a dx C : Addr} {f : Str} {v : V} (n : H a = none) (ne : dx ≠ a) :
    upd (del (upd (upd (upd H a (exo a C none)) dx (exd dx [(f, v)])) a (exo a C (some dx))) a) dx (.xd [(f, v)]) = upd H dx (.xd [(f, v)]) := by
  funext b
  by_cases h1 : b = dx
  · rw [h1, upd_same, upd_same]
  · rw [upd_ne h1, upd_ne h1]
    by_cases h2 : b = a
    · rw [h2, del_same, n]
    · rw [del_ne h2, upd_ne h2, upd_ne h1, upd_ne h2]
section
variable {X : Cx} {C fI : Addr} {fd : FuncData} {f x : Str} {e : Expr} {te : TE} {p pos : Pos} {CX' : CXT}
/-- C(e), to be raised -/
def tMk1 (C : Addr) (f : Str) (t : TA) : L2.St → Hp → XK → Prop := fun σ H Q => t σ H fun vs H1 => ∃ v, vs = [v] ∧ ∀ d, H1 d = none → Q (.ref C) (some d) (upd H1 d (.xd [(f, v)]))
theorem pmk_x1 {t : TA} (T : XIn X.K C fI) (ty : PySem.W.typeIn X.K (.ref C) = some (.type "type")) (F : FnOk X.prog X.w X.K X.mg X.base CX0 1 fI fd ["self", f] (spI1 C f)) (hr : Room 2 X.A)
    (hb : XB X.K fd ["self", f] [] (fun us _ => us) (fun vs _ => vs)) (hg : Gl X x) (hm : X.mg x = some (.ref C)) (ha : PA X [e] t)
    (hdb : (x == ("__debug__" : Str)) = false := by decide) (hst : starEach [e] X.env = (false, eval e X.env) :: starEach [] X.env := by rfl) :
    PMk X (.Call (.Name x p) [e] [] pos) (tMk1 C f t) := by
  intro pins s σ H Q I h
  refine wpAny_Call_Name_kw (ld_glob I hg hm ?_ hdb)
  refine PySem.W.callWith_K (h₀ := X.base) I.ok.mod.kin T.kp (thn (ha.run pos pins s σ H _ I h) ?_) hst rfl
  rintro us s1 ⟨vs, H1, I1, r1, v, rfl, q1⟩
  refine ⟨I1.kIn, ?_⟩
  show wpAny _ _ (call (.ref C) us) _ _ _
  obtain ⟨B, nI, iI, bmB, BF, _, ii, _⟩ := T.base
  obtain ⟨nm, N', qn, bs, bm, hdct, sn, sub, ab, col, dd, k0, k1, k2, k3, k5, cl, hT⟩ := PySem.W.excInit_of I1.kIn ii
  obtain ⟨hp, g', dr, tk', os⟩ := s1
  have big : hp.objs.size ≤ hp.objs.size + 1 := Nat.le_succ _
  have na : H1 (hp.objs.size + 1) = none := I1.hok.fresh big
  have keep : ∀ b o, hp.get? b = some o → ((hp.push (PySem.W.kdv_tup us)).push (PySem.PX.excO C hp.objs.size)).get? b = some o := fun b o e =>
    Heap.get?_push_of_some _ (Heap.get?_push_of_some _ e)
  have new : ((hp.push (PySem.W.kdv_tup us)).push (PySem.PX.excO C hp.objs.size)).get? (hp.objs.size + 1) = some (PySem.PX.excO C hp.objs.size) := by heap_get
  have I2 := I1.laid (t' := tk') (a := hp.objs.size + 1) (o := exo (hp.objs.size + 1) C none) keep big (exo_ok new)
  have r2 : Vals [V.ref (hp.objs.size + 1), v] (Value.ref (hp.objs.size + 1) :: us) := .cons rfl r1
  have hq : spI1 C f [V.ref (hp.objs.size + 1), v] (upd H1 (hp.objs.size + 1) (exo (hp.objs.size + 1) C none))
      (fun r H2 => r = .non ∧ ∃ dx, dx ≠ hp.objs.size + 1 ∧ upd H1 (hp.objs.size + 1) (exo (hp.objs.size + 1) C none) dx = none ∧
        H2 = upd (upd (upd H1 (hp.objs.size + 1) (exo (hp.objs.size + 1) C none)) dx (exd dx [(f, v)])) (hp.objs.size + 1) (exo (hp.objs.size + 1) C (some dx))) (fun _ _ _ => False) :=
    ⟨_, v, rfl, upd_same, fun dx nd ne => ⟨rfl, dx, ne, nd, rfl⟩⟩
  have bl := hb.to ⟨_, g', dr, tk', os⟩ (Value.ref (hp.objs.size + 1)) us [] I2.kIn (by rw [← r2.length]; rfl)
  refine wpAny_call (PySem.Xg.kw_call BF hT cl (PySem.W.looks_findIn I1.kIn T.ini) (fun self => PySem.W.bind_fn I1.kIn self T.tf) ?_ (codeAny_mono (F.run _ X.stack _ _ _ _ _ _ _ (hr.make C us []) (I2.env0.make C us []) bl r2 hq) ?_))
  · rw [← r1.length, sizeLine_eq]
    show 1 ≤ 16777216
    decide
  · rintro (er | (_ | _ | _ | u)) s' z
    · exact (show False from z).elim
    · exact z.elim
    · exact z.elim
    · exact z.elim
    · obtain ⟨r, H2, os2, bare2, un2, hok2, rv, er, dx, ne, nd, e2⟩ := z
      subst er
      obtain ⟨h2, g2, d2, t2, os'⟩ := s'
      subst e2
      refine ⟨rv, mk_end (raises_own T.ex ty) I1 big keep un2 hok2 os2 bare2 upd_same ((upd_ne ne).trans upd_same) ((upd_ne ne).symm.trans nd) ?_⟩
      rw [del_made na ne]
      exact q1 dx ((upd_ne ne).symm.trans nd)
/-- raise C(e) -/
theorem ps_raise1 {W : WX} {t : TA} {rp : Pos} (hc : X.calm = true) (tk : Takes X W) (T : XIn X.K C fI) (ty : PySem.W.typeIn X.K (.ref C) = some (.type "type")) (F : FnOk X.prog X.w X.K X.mg X.base CX0 1 fI fd ["self", f] (spI1 C f)) (hr : Room 2 X.A)
    (hb : XB X.K fd ["self", f] [] (fun us _ => us) (fun vs _ => vs)) (hg : Gl X x) (hm : X.mg x = some (.ref C)) (ha : PA X [e] t)
    (hdb : (x == ("__debug__" : Str)) = false := by decide) (hst : starEach [e] X.env = (false, eval e X.env) :: starEach [] X.env := by rfl) :
    PS X (.Raise (some (.Call (.Name x p) [e] [] pos)) none rp) (fun _ σ H => tMk1 C f t σ H fun cls d H' => W cls d σ H') :=
  ps_raise hc tk (pmk_x1 T ty F hr hb hg hm ha hdb hst)
end
section
variable {X : Cx}
/-- what several clauses 'except x as n' wish of an exception of the body, one after the other: slot i is n's -/
def wManyAs (K : PySem.W.Frag) (i : Nat) (Wout : WX) (D : Ends) : List (Value × (Addr → Value → Option Addr → TS)) → WX
  | [] => Wout
  | (c, ts) :: r => fun cls d σ H => ∃ b, PySem.W.exmOne K cls c = some b ∧
      (b = true → ∀ a, H a = none → ts a cls d { nx := fun σ' H' => D.nx (σ'.set i none) H', rt := D.rt, bk := fun σ' H' => D.bk (σ'.set i none) H', ct := fun σ' H' => D.ct (σ'.set i none) H' } (σ.set i (some (.ref a))) H) ∧
      (b = false → wManyAs K i Wout D r cls d σ H)
inductive HdsAs (X : Cx) (n : Str) : List ExceptHandler → List (Value × (Addr → Value → Option Addr → TS)) → Prop
  | nil : HdsAs X n [] []
  | cons {x : Str} {c : Value} {ts : Addr → Value → Option Addr → TS} {b₀ : Stmt} {suite : List Stmt} {np pos' : Pos} {hds : List ExceptHandler} {l : List (Value × (Addr → Value → Option Addr → TS))} (hc : Names X x c)
      (hsu : ∀ (a : Addr) (oe : Obj) (cls : Value) (d : Option Addr) (pn : List (Addr × Obj)), Zc cls d oe → (∃ vs, oe.data = .fields vs) → PSs (X.suite a ((a, oe) :: pn)) (b₀ :: suite) (ts a cls d)) (r : HdsAs X n hds l) :
      HdsAs X n (.ExceptHandler (some (.Name x np)) (some n) (b₀ :: suite) pos' :: hds) ((c, ts) :: l)
variable {body : List Stmt} {h₀ : ExceptHandler} {hds : List ExceptHandler} {l : List (Value × (Addr → Value → Option Addr → TS))} {n : Str} {i : Nat} {pos : Pos} {tb : WX → TS} {Wout : WX}
/-- try: body, several clauses 'except x as n' -/
theorem ps_try_manyAs (hs : X.stack = X.env :: X.outer) (hf : X.env.frame = some X.env.locals) (hN : X.N.Nodup) (hi : X.N[i]? = some n) (hln : X.env.kindOf n = some .local) (tk : Takes X Wout)
    (hb : ∀ (W : WX) (pn : List (Addr × Obj)) (xe : Value → Shared → Prop), Takes (X.tr pn xe) W → PassesOwn (model X.prog X.w) X.A X.env xe → PSs (X.tr pn xe) body (tb W))
    (hh : HdsAs X n (h₀ :: hds) l) : PS X (.Try body (h₀ :: hds) [] [] pos) (fun D σ H => tb (wManyAs X.K i Wout D l) D σ H) := by
  constructor
  intro pins s σ H D I h
  have ok := I.ok
  have fr : X.A.frames = some (X.env :: X.outer) := by
    rw [ok.frames, hs]
  refine wpAny_Try_except ?_
  have run := hb (wManyAs X.K i Wout D l) (X.pn ++ pins) (fun e s₁ => wpAny (model X.prog X.w) X.A (noteFrame e X.env) (fun _ s₂ => wpAny (model X.prog X.w) X.A (setFlight e none)
    (fun _ s₃ => wpAny (model X.prog X.w) X.A (handleBy e X.env (h₀ :: hds)) (SP X pins D) X.xe s₃) X.xe s₂) X.xe s₁) ?tk PassesOwn.looking
  case tk =>
    rintro u s' ⟨a, B, sI, pins', σ', H', cls, d, rfl, J', nb, up, sky, na, os, ag, wish⟩
    have J := J'.ofTry ok
    rw [show (X.tr (X.pn ++ pins) _).stack = X.env :: X.outer from hs] at sky
    refine Sky.land Zc.steady fr hf sky fun h3 fl3 up3 => ?_
    have J3 : Inv X pins σ' H' { s' with heap := h3 } := J.landed nb fl3.1 (up.trans up3) os ag
    obtain ⟨oe3, vs3, at3, z3, d3⟩ := fl3.there
    have out : a ∉ frs (X.env :: X.outer) := fun m => by
      obtain ⟨_, o', q', nf⟩ := fl3.2.2.1.mem m
      rw [at3] at q'
      cases q'
      exact nf _ d3
    have nL : a ≠ X.env.locals := fun z => out (List.mem_filterMap.mpr ⟨X.env, List.mem_cons_self, by rw [hf, z]⟩)
    have nF : a ∉ X.fs := fun m => by
      obtain ⟨e', he', q'⟩ := List.mem_filterMap.mp m
      exact out (List.mem_filterMap.mpr ⟨e', List.mem_cons_of_mem _ he', q'⟩)
    have S3 := J3.suite at3 d3 na nL nF
    have go : ∀ {hds' l'}, HdsAs X n hds' l' → wManyAs X.K i Wout D l' cls d σ' H' → wpAny (model X.prog X.w) X.A (handleBy (.ref a) X.env hds') (SP X pins D) X.xe { s' with heap := h3 } := by
      intro hds' l' hk
      induction hk with
      | nil =>
        intro wish
        refine wpAny_handleBy_nil ?_
        obtain ⟨k1, k2, k3, oe, vs, T, oT, ts', he, hz, hd, h1, hr⟩ := id fl3
        unfold PySem.passOn
        refine wpAny_bind (wpAny_field he hd h1 ?_)
        rw [if_neg (show ¬ ((Value.ref T == Value.none) = true) from by simp)]
        have fin : wpAny (model X.prog X.w) X.A (setFlight (.ref a) X.env.frame) (fun _ s4 => wpAny (model X.prog X.w) X.A (throw (.ref a) : Sem Flow) (SP X pins D) X.xe s4) X.xe { s' with heap := h3 } := by
          rw [hf]
          refine HandSPX.setFlight_upZ fl3 fun h4 hh4 up4 => wpAny_throw (tk _ _ ?_)
          refine ⟨a, B, sI, pins, σ', H', cls, d, rfl, J, nb, (up.trans up3).trans up4, .inr (.inr ?_), na, os, ag, wish⟩
          rw [hs]
          exact hh4
        first
          | exact wpAny_bind (wpAny_pure (wpAny_bind fin))
          | exact wpAny_bind fin
      | @cons x c ts b₀ suite np pos' hds2 l2 hc hsu r ih =>
        rintro ⟨b, hb1, yes, no⟩
        refine wpAny_handleBy_cons (codeAny_handlers_test ?_) (by intro q; cases q)
        have ty : PySem.W.Looks (model X.prog X.w) h3 (typeOf (.ref a)) cls := fun A Q E s k q => wpAny_typeOf_ref (k _ _ at3) (by rw [z3.1]; exact q)
        have look := PySem.W.exm_one (M := model X.prog X.w) J3.kIn ty hb1
        have name : ∀ {Q : Value → Shared → Prop} {E : Value → Shared → Prop}, Q c { s' with heap := h3 } → wpAny (model X.prog X.w) (X.A.mark (some (.ref a))) (eval (.Name x np) X.env) Q E { s' with heap := h3 } := by
          intro Q E q
          obtain ⟨hg, hdbg, hm | ⟨hm, hv, hnn⟩⟩ := hc
          · exact ld_glob (X := X.suite a ((a, oe3) :: (X.pn ++ pins))) S3 hg hm q hdbg
          · exact ld_blt (X := X.suite a ((a, oe3) :: (X.pn ++ pins))) S3 hg hm hv q hnn hdbg
        refine name (look.here ?_)
        cases b with
        | false =>
          show wpAny _ X.A (handleBy (.ref a) X.env hds2) _ _ _
          exact ih (no rfl)
        | true =>
          refine codeAny_handlers_suite_as ?_
          refine HandSPX.lands_againZ fl3 fun h4 fl4 up4 => ?_
          have J4 : Inv X pins σ' H' { s' with heap := h4 } := J.landed nb fl4.1 ((up.trans up3).trans up4) os ag
          obtain ⟨oe4, vs4, at4, z4, d4⟩ := fl4.there
          have S4 := J4.suite at4 d4 na nL nF
          refine store_ok (X := X.suite a ((a, oe4) :: (X.pn ++ pins))) (v := .ref a) S4 hN hi (.inl hln) rfl (fun s5 S5 => ?_) (.inr hln)
          refine wpAny_mono ((hsu a oe4 cls d (X.pn ++ pins) z4 ⟨_, d4⟩).run [] s5 _ H' _ S5 (yes rfl a na)) (fun f s6 sp => ?_) (fun _ _ z => False.elim z)
          have leave : ∀ {σ6 : L2.St} {H6 : Hp} {Q : Shared → Prop}, Inv (X.suite a ((a, oe4) :: (X.pn ++ pins))) [] σ6 H6 s6 → (∀ s7, Inv X pins (σ6.set i none) H6 s7 → Q s7) →
              wpAny (model X.prog X.w) X.A (do bindName X.env n .none; unbindBehindTheSuite X.env n pos') (fun _ s7 => Q s7) X.xe s6 := fun S6 hq => gone_ok (S6.unsuite ok) hN hi hln hq
          cases f with
          | ret u =>
            obtain ⟨v6, σ6, H6, S6, r6, q6⟩ := sp
            exact leave S6 fun s7 J7 => ⟨_, _, _, J7, r6, q6⟩
          | _ =>
            obtain ⟨σ6, H6, S6, q6⟩ := sp
            exact leave S6 fun s7 J7 => ⟨_, _, J7, q6⟩
    exact go hh wish
  refine wpAny_mono (run.run [] s σ H D (I.toTry _) h) (fun f s1 sp => ?_) (fun e s1 he => he)
  cases f with
  | next =>
    obtain ⟨σ', H', J', q⟩ := sp
    exact wpAny_execs_nil ⟨σ', H', J'.ofTry ok, q⟩
  | ret u =>
    obtain ⟨v, σ', H', J', r, q⟩ := sp
    exact ⟨v, σ', H', J'.ofTry ok, r, q⟩
  | _ =>
    obtain ⟨σ', H', J', q⟩ := sp
    exact ⟨σ', H', J'.ofTry ok, q⟩
end
end Xl

/-! In an except suite: isinstance of the caught error, whose fields stand in its dict. -/
namespace Xl
open PySem PySem.Spec PyProof.Rows L2 Gy
def rIsS (K : PySem.W.Frag) (a : Addr) (cls : Value) (d : Option Addr) : List V → Hp → VK → Prop := fun xs H Q => ∃ (D dd : Addr) (fs : List (Str × V)) (c : V) (cv : Value) (b : Bool),
  xs = [.ref a, c] ∧ cls = .ref D ∧ d = some dd ∧ H dd = some (.xd fs) ∧ XCl K D ∧ ClsV c cv ∧ PySem.W.kitOne K (.ref D) cv = some b ∧ Q (.bl b) H
theorem call_isS {X : Cx} {a : Addr} {oe : Obj} {cls : Value} {d : Option Addr} {pn : List (Addr × Obj)} (cg : PySem.W.specialIn X.K (.builtin "object.__class__") "__get__" = some (some (.builtin "getset_descriptor.__get__")))
    (ct : PySem.W.takesIn X.K (.builtin "object.__class__") = some true) (hz : Zc cls d oe) (hf : ∃ vs, oe.data = .fields vs) : CallR (X.suite a ((a, oe) :: pn)) (.builtin "isinstance") (rIsS X.K a cls d) := by
  intro pins s σ H xs us Q I r h
  obtain ⟨D, dd, fs, c, cv, b, rfl, rfl, rfl, hd, T, hc, e, q⟩ := h
  obtain ⟨u1, u2, rfl, r1, r2⟩ := vals2 r
  cases r1
  have e2 := hc.eq r2
  subst e2
  obtain ⟨ha, _⟩ := I.pin (a, oe) (List.mem_append_left _ List.mem_cons_self)
  obtain ⟨vs, hv⟩ := hf
  obtain ⟨mA, ns, _⟩ := (show ObjOk X.prog X.w H s.heap dd (.xd fs) from I.hok dd _ hd)
  obtain ⟨od, go, _⟩ := lookIn_ns ns
  have cl : (PySem.W.clsIn X.K D).isSome = true := by
    obtain ⟨cd, z, _⟩ := PySem.W.any_some T.hd
    rw [z]
    rfl
  have J : PySem.W.InstAt s.heap a oe D (some od) := by
    obtain ⟨oc, odd, oda, osl⟩ := oe
    obtain ⟨h1, h2⟩ := hz
    dsimp only at h1 h2 hv
    subst h1 h2 hv
    exact ⟨ha, rfl, rfl, go⟩
  exact PySem.W.kia_one (PySem.W.kitx_exc cl T.ga T.gg T.ex T.ca cg ct T.ob) I.kIn J e (fun z => nomatch z) fun tk => ⟨.bl b, H, I.tok tk, rfl, q⟩
end Xl

/-! Tuples that are made in the run, known to have no dict of their own: so their methods can be called. -/
namespace Xt
open PySem PySem.Spec PyProof.Rows L2
/-- a tuple that was made in the run -/
def Tz (H : Hp) (a : Addr) (xs : List V) : Prop := ∃ o : Obj, H a = some (.frz o (.tup xs)) ∧ o.cls = .type "tuple" ∧ o.dict = none
theorem Tz.sq {K : PySem.W.Frag} {H : Hp} {a : Addr} {xs : List V} (h : Tz H a xs) : SqT K H a xs := by
  obtain ⟨o, e, _⟩ := h
  exact .inl (.inr ⟨o, e⟩)
theorem Tz.same {H H' : Hp} {a : Addr} {xs : List V} (h : Tz H a xs) (s : Same H H') : Tz H' a xs := by
  obtain ⟨o, e, c⟩ := h
  exact ⟨o, s _ _ e, c⟩
theorem Tz.ty {K : PySem.W.Frag} {H : Hp} {a : Addr} {xs : List V} (h : Tz H a xs) : TyX K H (.ref a) (.type "tuple") := by
  obtain ⟨o, e, _⟩ := h
  exact .fTuple e
theorem Tz.ne {H : Hp} {a p : Addr} {xs : List V} (h : Tz H a xs) (n : H p = none) : a ≠ p := by
  obtain ⟨o, e, _⟩ := h
  exact ne_of_none e n
/-- the goal behind a new tuple -/
def NewT (xs : List V) (H : Hp) (Q : VK) : Prop := ∀ p o, H p = none → Same H (upd H p o) → Tz (upd H p o) p xs → Q (.ref p) (upd H p o)
section
variable {X : Cx} {pins : List (Addr × Obj)} {σ : L2.St} {H : Hp} {s : Shared} {Q : VK}
theorem lay_new (I : Inv X pins σ H s) {xs : List V} {us : List Value} {n : Nat} (z : xs.length ≤ sizeLine) (r : Vals xs us) (q : NewT xs H Q) :
    EP X pins σ Q (.ref s.heap.objs.size) { s with heap := s.heap.push { cls := .type "tuple", data := .seq us.toArray n } } := by
  have new : H s.heap.objs.size = none := I.hok.fresh (Nat.le_refl _)
  have got : (s.heap.push { cls := .type "tuple", data := .seq us.toArray n }).get? s.heap.objs.size = some { cls := .type "tuple", data := .seq us.toArray n } := Heap.get?_push_size _ rfl
  refine ⟨.ref s.heap.objs.size, upd H s.heap.objs.size (.frz { cls := .type "tuple", data := .seq us.toArray n } (.tup xs)), I.laid (t' := s.toks) (fun b u e => Heap.get?_push_of_some _ e) (Nat.le_refl _) ⟨got, z, us, r, _, got, rfl, n, rfl⟩, rfl, ?_⟩
  refine q _ _ new (fun b x e => ?_) ⟨_, upd_same, rfl, rfl⟩
  rw [upd_ne (ne_of_none e new)]
  exact e
/-- a written tuple -/
def tTupZ (t : TA) : TE := fun σ H Q => t σ H fun xs H1 => xs.length ≤ sizeLine ∧ NewT xs H1 Q
theorem pe_tupZ {es : List Expr} {t : TA} {x1} {pos : Pos} (h : PA X es t) : PE X (.Tuple es x1 pos) (tTupZ t) := by
  refine ⟨fun pins s σ H Q I hq => wpAny_Tuple_spliced (thn (h.run pos pins s σ H _ I hq) fun us s1 ⟨xs, H1, I1, r, z, q⟩ => ⟨by rw [← r.length]; exact z, ?_⟩)⟩
  exact lay_new I1 z r q
/-- tuple(xs), xs a list -/
def rTupOf (K : PySem.W.Frag) : List V → Hp → VK → Prop := fun xs H Q => ∃ p ys, xs = [.ref p] ∧ SqL K H p ys ∧ ys.length ≤ 1000 ∧ NewT ys H Q
theorem call_tupOf : CallR X (.type "tuple") (rTupOf X.K) := by
  intro pins s σ H xs us Q I r h
  obtain ⟨p, ys, rfl, sq, le, q⟩ := h
  obtain ⟨u, rfl, rx⟩ := vals1 r
  cases rx
  obtain ⟨its, rv, pl, z⟩ := I.list sq
  have el := rv.length
  refine call_tuple_list pl.isList (fun h2 keep => ?_) (by simp only [List.size_toArray]; omega)
  exact lay_new (n := 0) (I.kept (t' := s.toks) keep) z rv q
/-- t[a:b], not the whole -/
def rCut (K : PySem.W.Frag) : V → Option Int → Option Int → Hp → VK → Prop := fun x lo hi H Q => ∃ a xs, x = .ref a ∧ SqT K H a xs ∧ ¬ (HT.sIx xs.length 0 lo = 0 ∧ HT.sIx xs.length xs.length hi = xs.length) ∧ NewT (cutV xs lo hi) H Q
theorem sl_cut : SlR X (rCut X.K) := by
  intro pins s σ H x v vl vu lo hi sl Q I rx hs pl pu h
  obtain ⟨a, xs, rfl, sq, part, q⟩ := h
  cases rx
  obtain ⟨its, r, at_, z⟩ := I.tuple sq
  have el : its.toArray.size = xs.length := by rw [List.size_toArray]; exact r.length.symm
  refine ⟨"tuple", _, PyProof.Rows.slot_tuple_getitem.lookup, at_.typeIs, HT.getItem_tuple_cut at_ hs pl pu (by rw [el]; exact part) ?_ (by rw [el]; exact z)⟩
  rw [el]
  exact lay_new I (Nat.le_trans (cutV_length xs lo hi) z) ((r.drop (HT.sIx xs.length 0 lo)).take (HT.sIx xs.length xs.length hi - HT.sIx xs.length 0 lo)) q
/-- t[a:b] of any kind: the whole is t itself; what comes is told by a relation that both give -/
def rCutA (K : PySem.W.Frag) : V → Option Int → Option Int → Hp → VK → Prop := fun x lo hi H Q => ∃ a xs, x = .ref a ∧ Tz H a xs ∧ (cutV xs lo hi = xs → Q (.ref a) H) ∧ NewT (cutV xs lo hi) H Q
theorem cut_whole {xs : List V} {lo hi : Option Int} (h : HT.sIx xs.length 0 lo = 0 ∧ HT.sIx xs.length xs.length hi = xs.length) : cutV xs lo hi = xs := by
  unfold cutV
  rw [h.1, h.2, List.drop_zero, Nat.sub_zero, List.take_of_length_le (Nat.le_refl _)]
theorem sl_cutA : SlR X (rCutA X.K) := by
  intro pins s σ H x v vl vu lo hi sl Q I rx hs pl pu h
  obtain ⟨a, xs, rfl, tz, q1, q2⟩ := h
  by_cases w : HT.sIx xs.length 0 lo = 0 ∧ HT.sIx xs.length xs.length hi = xs.length
  · exact sl_tupA pins s σ H _ v vl vu lo hi sl Q I rx hs pl pu ⟨a, xs, rfl, tz.sq, fun _ => q1 (cut_whole w), fun z => absurd w z⟩
  · exact sl_cut pins s σ H _ v vl vu lo hi sl Q I rx hs pl pu ⟨a, xs, rfl, tz.sq, w, q2⟩
/-- t + u -/
def rSum (K : PySem.W.Frag) : R2 := fun x y H Q => ∃ a b xs ys, x = .ref a ∧ y = .ref b ∧ Tz H a xs ∧ Tz H b ys ∧ xs.length + ys.length ≤ sizeLine ∧ (xs = [] → Q (.ref b) H) ∧ (ys = [] → Q (.ref a) H) ∧ NewT (xs ++ ys) H Q
theorem op_sum : OpR X (binaryOp .Add) (rSum X.K) := by
  intro pins s σ H x y v u Q I rx ry h
  obtain ⟨a, b, xs, ys, rfl, rfl, ta, tb, z, q0, q1, q2⟩ := h
  cases rx
  cases ry
  obtain ⟨its, r1, p1, _⟩ := I.tuple ta.sq
  obtain ⟨its2, r2, p2, _⟩ := I.tuple tb.sq
  by_cases e : xs = []
  · subst e
    cases r1
    exact cat_tup0 p1 p2 ⟨.ref b, H, I, rfl, q0 rfl⟩
  · refine HT.cat_tup p1 p2 (fun w => e (r1.nil_iff.mp w)) (fun w => ⟨.ref a, H, I, rfl, q1 (r2.nil_iff.mp w)⟩) (fun _ => ?_) (by rw [← r1.length, ← r2.length]; exact z)
    exact lay_new I (by rw [List.length_append]; exact z) (r1.append r2) q2
/-- t.m(e, ..), t a tuple made in the run -/
def tTm (r : V → List V → Hp → VK → Prop) (to : TE) (t : TA) : TE := fun σ H Q => to σ H fun x H1 => (∃ a xs, x = .ref a ∧ Tz H1 a xs) ∧ t σ H1 fun ys H2 => r x ys H2 Q
theorem pe_tm {o e : Expr} {es : List Expr} {to : TE} {t : TA} {name : Str} {apos cpos : Pos} {id : String} {r : V → List V → Hp → VK → Prop} (slot : Slot "tuple" name id) (hty : typeOf (.builtin id) = pure (.type "method_descriptor")) (hm : MtR X id r) (ho : PE X o to) (ha : PA X (e :: es) t)
    (hbase : attributeBase o name X.env (eval o X.env) = eval o X.env := by rfl)
    (few : ((backTo cpos (starEach (e :: es) X.env)).all (fun x => !x.1) && (backToKw cpos (keywordEach [] X.env)).all (fun x => x.1.isSome) && decide ((e :: es).length + ([] : List Keyword).length + (if ([] : List Keyword).isEmpty then 0 else 1) < 30)) = true := by rfl)
    (hline : (apos.endLine == cpos.line) = true := by rfl) (hs : starEach (e :: es) X.env = (false, eval e X.env) :: starEach es X.env := by rfl) (hpl : (backTo cpos (starEach es X.env)).any (·.1) = false := by rfl) :
    PE X (.Call (.Attribute o name apos) (e :: es) [] cpos) (tTm r to t) := by
  refine ⟨fun pins s σ H Q I h => wpAny_Call_method_late hbase few hline rfl (thn (ho.run pins s σ H _ I h) fun v s1 ⟨x, H1, I1, r1, ty, q1⟩ => ?_)⟩
  obtain ⟨a, xs, rfl, ob, eo, oc, od⟩ := ty
  cases r1
  have got : s1.heap.get? a = some ob := (show ObjOk X.prog X.w H1 s1.heap a (.frz ob (.tup xs)) from I1.hok a _ eo).1
  refine ⟨"tuple", id, PySem.F.plainAttrs_tuple, slot, hty, ⟨ob, got, oc⟩, fun b eb => by cases eb; exact ⟨ob, got, od⟩, ?_⟩
  have args := ha.run cpos pins s1 σ H1 _ I1 q1
  rw [hs] at args ⊢
  refine Calls.callWith_builtin (by show (false || (backTo cpos (starEach es X.env)).any (·.1)) = false; rw [hpl]; rfl) (Calls.evalArgs_plain (thn args fun us s2 ⟨vs, H2, I2, r2, q2⟩ => ?_))
  exact hm pins s2 σ H2 (.ref a) vs (.ref a) us Q I2 rfl r2 q2
end
end Xt

/-! Data at any depth, with dicts without entries anywhere in it: how it is read and shown. -/
namespace Gy
open PySem PySem.Spec PyProof.Rows L2 Xt
mutual
inductive Dn (K : PySem.W.Frag) (H : Hp) : V → PyData → Prop
  | non : Dn K H .non .none
  | bl (b : Bool) : Dn K H (.bl b) (.bool b)
  | int (i : Int) : Dn K H (.int i) (.int i)
  | str (x : Str) : Dn K H (.str x) (.str x)
  | lst {a : Addr} {xs : List V} {ds : List PyData} (h : H a = some (.lst xs)) (t : Dns K H xs ds) : Dn K H (.ref a) (.list ds)
  | tup {a : Addr} {xs : List V} {ds : List PyData} (h : Tz H a xs) (t : Dns K H xs ds) : Dn K H (.ref a) (.tuple ds)
  | dic {a : Addr} (h : H a = some (.dK [])) : Dn K H (.ref a) (.dict [])
inductive Dns (K : PySem.W.Frag) (H : Hp) : List V → List PyData → Prop
  | nil : Dns K H [] []
  | cons {v : V} {vs : List V} {d : PyData} {ds : List PyData} (h : Dn K H v d) (t : Dns K H vs ds) : Dns K H (v :: vs) (d :: ds)
end
mutual
theorem Dn.same {K : PySem.W.Frag} {H H' : Hp} (s : Same H H') : ∀ {v : V} {d : PyData}, Dn K H v d → Dn K H' v d
  | _, _, .non => .non
  | _, _, .bl b => .bl b
  | _, _, .int i => .int i
  | _, _, .str x => .str x
  | _, _, .lst h a => .lst (s _ _ h) (Dns.same s a)
  | _, _, .tup h a => .tup (h.same s) (Dns.same s a)
  | _, _, .dic h => .dic (s _ _ h)
theorem Dns.same {K : PySem.W.Frag} {H H' : Hp} (s : Same H H') : ∀ {vs : List V} {ds : List PyData}, Dns K H vs ds → Dns K H' vs ds
  | _, _, .nil => .nil
  | _, _, .cons h t => .cons (Dn.same s h) (Dns.same s t)
end
/-- a dict without entries, as the model has it -/
theorem dict_at {X : Cx} {pins : List (Addr × Obj)} {σ : L2.St} {H : Hp} {s : Shared} (I : Inv X pins σ H s) {a : Addr} (h : H a = some (.dK [])) :
    (a == sysModules) = false ∧ ∃ o es ep, s.heap.get? a = some o ∧ o.cls = .type "dict" ∧ o.data = .dict es ep ∧ es.toList = [] ∧ Reads s.heap (.ref a) (.dict []) [a] := by
  obtain ⟨_, ns, vs, kv, o, es, ep, g1, ex, g2, ks, ps, _⟩ := (show ObjOk X.prog X.w H s.heap a (.dK []) from I.hok a _ h)
  cases kv
  have e : es.toList = [] := by
    generalize es.toList = l at ps
    cases ps
    rfl
  exact ⟨ns, o, es, ep, g1, ex.1, g2, e, .dict g1 ex.1 g2 (as := []) (bs := []) (by rw [e]; exact .nil) (by rw [e]; exact .nil)⟩
section
variable {X : Cx} {pins : List (Addr × Obj)} {σ : L2.St} {H : Hp} {s : Shared}
mutual
theorem Dn.shows (I : Inv X pins σ H s) : ∀ {v : V} {d : PyData} {u : Value}, Dn X.K H v d → RelV v u → d.showable = true → d.shown.length ≤ sizeLine →
    ∃ as bs, Reads s.heap u d as ∧ ReadAtMost s.heap d.depth bs ∧ ReprK X.prog X.w bs s.heap d.depth u d.shown
  | _, _, _, .non, r, hs, hz => by
    cases r
    obtain ⟨bs, h1, h2⟩ := ReprK.of_reads (prog := X.prog) (w := X.w) (h₀ := s.heap) Reads.none hs (fun z => nomatch z) hz
    exact ⟨_, bs, .none, h1, h2⟩
  | _, _, _, .bl b, r, hs, hz => by
    cases r
    obtain ⟨bs, h1, h2⟩ := ReprK.of_reads (prog := X.prog) (w := X.w) (h₀ := s.heap) (Reads.bool b) hs (fun z => nomatch z) hz
    exact ⟨_, bs, .bool b, h1, h2⟩
  | _, _, _, .int i, r, hs, hz => by
    obtain ⟨t, rfl⟩ := r
    obtain ⟨bs, h1, h2⟩ := ReprK.of_reads (prog := X.prog) (w := X.w) (h₀ := s.heap) (Reads.int i t) hs (fun z => nomatch z) hz
    exact ⟨_, bs, .int i t, h1, h2⟩
  | _, _, _, .str x, r, hs, hz => by
    obtain ⟨t, rfl⟩ := r
    obtain ⟨bs, h1, h2⟩ := ReprK.of_reads (prog := X.prog) (w := X.w) (h₀ := s.heap) (Reads.str x t) hs (fun z => nomatch z) hz
    exact ⟨_, bs, .str x t, h1, h2⟩
  | _, _, _, .lst (a := a) (ds := ds) h ha, r, hs, hz => by
    cases r
    have hz' : (listText (PyData.shownAll ds)).length ≤ sizeLine := by simpa only [PyData.shown] using hz
    obtain ⟨its, rv, ⟨o, n, ho, hc, _, hd⟩, _⟩ := I.list (SqL.of h)
    obtain ⟨as, bs, hr, hb, hk⟩ := Dns.shows I ha rv (by simpa [PyData.showable] using hs) (fun t ht => Nat.le_trans (listText_mem_le ht) hz')
    have q : Reads s.heap (.ref a) (.list ds) _ := .list ho hc hd hr
    have hna : a ∉ bs := not_mem_of_deeper q (by simp only [PyData.depth]; omega) hb
    refine ⟨_, a :: bs, q, ReadAtMost.cons q (by simp only [PyData.depth]; omega) hb, ?_⟩
    simp only [PyData.depth, PyData.shown]
    cases its with
    | nil =>
      cases hr
      simp only [PyData.shownAll, listText_nil]
      exact ReprK.listEmpty ho hc hd
    | cons x l => exact ReprK.list ho hc hd hna (by simpa using hk.length_eq) (fun i y e => hk.item i y (by simpa using e))
  | _, _, _, .tup (a := a) (ds := ds) h ha, r, hs, hz => by
    cases r
    have hz' : (tupleText (PyData.shownAll ds)).length ≤ sizeLine := by simpa only [PyData.shown] using hz
    obtain ⟨its, rv, ⟨o, ho, hc, n, hd⟩, _⟩ := I.tuple h.sq
    obtain ⟨as, bs, hr, hb, hk⟩ := Dns.shows I ha rv (by simpa [PyData.showable] using hs) (fun t ht => Nat.le_trans (tupleText_mem_le ht) hz')
    have q : Reads s.heap (.ref a) (.tuple ds) _ := .tuple ho hc hd hr
    have hna : a ∉ bs := not_mem_of_deeper q (by simp only [PyData.depth]; omega) hb
    refine ⟨_, a :: bs, q, ReadAtMost.cons q (by simp only [PyData.depth]; omega) hb, ?_⟩
    simp only [PyData.depth, PyData.shown]
    exact ReprK.tuple ho hc hd hna hk
  | _, _, _, .dic (a := a) h, r, hs, hz => by
    cases r
    obtain ⟨ns, o, es, ep, ho, hc, hd, he, q⟩ := dict_at I h
    refine ⟨_, [a], q, ReadAtMost.cons q (n := 0) (Nat.zero_le _) (fun _ z => nomatch z), ?_⟩
    exact ReprK.dict (as := []) (d := 0) (ps := []) ho hc hd ns (fun z => nomatch z) (by rw [he]; exact .nil)
theorem Dns.shows (I : Inv X pins σ H s) : ∀ {vs : List V} {ds : List PyData} {us : List Value}, Dns X.K H vs ds → Vals vs us → PyData.showableAll ds = true → (∀ t ∈ PyData.shownAll ds, t.length ≤ sizeLine) →
    ∃ as bs, ReadsAll s.heap us ds as ∧ ReadAtMost s.heap (PyData.depthAll ds) bs ∧ ReprAllK X.prog X.w bs s.heap (PyData.depthAll ds) us (PyData.shownAll ds)
  | _, _, _, .nil, .nil, _, _ => ⟨[], [], .nil, (fun _ h => nomatch h), .nil⟩
  | _, _, _, .cons (d := d) (ds := ds) h hs, .cons r rs, sh, len => by
    have sh2 : d.showable = true ∧ PyData.showableAll ds = true := by simpa only [PyData.showableAll, Bool.and_eq_true] using sh
    obtain ⟨as, b1, rd, m1, k1⟩ := Dn.shows I h r sh2.1 (len _ List.mem_cons_self)
    obtain ⟨as2, b2, rd2, m2, k2⟩ := Dns.shows I hs rs sh2.2 fun t ht => len t (List.mem_cons_of_mem _ ht)
    have l1 : d.depth ≤ PyData.depthAll (d :: ds) := Nat.le_max_left _ _
    have l2 : PyData.depthAll ds ≤ PyData.depthAll (d :: ds) := Nat.le_max_right _ _
    refine ⟨as ++ as2, b1 ++ b2, .cons rd rd2, (m1.mono l1).append (m2.mono l2), ?_⟩
    exact .cons ((k1.more fun b hb => List.mem_append_left _ hb).level_le l1) (k2.more_le (fun b hb => List.mem_append_right _ hb) l2)
end
end
/-- repr of any such value -/
def rReprN (K : PySem.W.Frag) : List V → Hp → VK → Prop := fun xs H Q => ∃ v d, xs = [v] ∧ Dn K H v d ∧ d.showable = true ∧ d.depth ≤ 60 ∧ d.shown.length ≤ sizeLine ∧ Q (.str d.shown) H
theorem repr_dn {X : Cx} (hg : X.A.guards = some []) (hu : X.A.units + 70 < cLine) : CallR X (.builtin "repr") (rReprN X.K) := by
  intro pins s σ H xs us Q I r h
  obtain ⟨v, d, rfl, dn, sh, dp, len, q⟩ := h
  obtain ⟨u, rfl, ru⟩ := vals1 r
  have fin : ∀ (h' : Heap) (x : Tok) (tk : Nat), (∀ b o, s.heap.get? b = some o → h'.get? b = some o) → ∃ y H', Inv X pins σ H' { s with heap := h', toks := tk } ∧ RelV y (.str d.shown x) ∧ Q y H' := fun h' x tk hk => ⟨.str d.shown, H, I.kept hk, ⟨x, rfl⟩, q⟩
  cases dn with
  | non =>
    cases ru
    exact P.repr_of_none ⟨.str "None", H, I.tok _, ⟨_, rfl⟩, q⟩
  | bl b =>
    cases ru
    exact P.repr_of_bool ⟨.str (PyData.shown (.bool b)), H, I.tok _, ⟨_, by cases b <;> rfl⟩, q⟩
  | int i =>
    obtain ⟨t, rfl⟩ := ru
    exact P.repr_of_int (by simpa [PyData.showable] using sh) ⟨.str (toString i), H, I.tok _, ⟨_, rfl⟩, q⟩
  | str x =>
    obtain ⟨t, rfl⟩ := ru
    exact P.repr_of_str ⟨.str (reprText x), H, I.tok _, ⟨_, rfl⟩, q⟩ len
  | @lst a ys ds h ha =>
    cases ru
    have len' : (listText (PyData.shownAll ds)).length ≤ sizeLine := by simpa only [PyData.shown] using len
    obtain ⟨its, rv, ⟨o, n, g1, g2, _, g3⟩, _⟩ := I.list (SqL.of h)
    obtain ⟨as, bs, rd, at_, sw⟩ := Dns.shows I ha rv (by simpa [PyData.showable] using sh) fun t ht => Nat.le_trans (listText_mem_le ht) len'
    have out : a ∉ bs := not_mem_of_deeper (.list g1 g2 g3 rd) (by simp only [PyData.depth]; omega) at_
    refine call_repr_slot (T := "list") (idr := "list.__repr__") (by omega) ⟨o, g1, g2⟩ F.slot_list_repr.toG ?_
    match its, rv, g3, rd, sw with
    | [], rv, g3, rd, _ =>
      cases rd
      exact call_list_repr_empty ⟨o, g1, g2⟩ g1 g3 ⟨_, _, rfl, .str "[]", H, I.tok _, ⟨_, rfl⟩, by simpa only [PyData.shown, PyData.shownAll, listText_nil] using q⟩
    | x :: rest, _, g3, _, sw =>
      refine call_list_reprK g1 g2 g3 out (by simpa using sw.length_eq) (fun i y e => sw.item i y (by simpa using e)) (g := []) hg (fun b _ => Clear.nil b) (d := PyData.depthAll ds) ?_ (fun _ _ e => e) (fun h' u tk hk => ⟨_, _, rfl, fin h' u tk hk⟩) len'
      simp only [PyData.depth] at dp
      show X.A.units + 1 + (PyData.depthAll ds + 1) < cLine
      omega
  | @tup a ys ds h ha =>
    cases ru
    have len' : (tupleText (PyData.shownAll ds)).length ≤ sizeLine := by simpa only [PyData.shown] using len
    obtain ⟨its, rv, ⟨o, g1, g2, n, g3⟩, _⟩ := I.tuple h.sq
    obtain ⟨as, bs, rd, at_, sw⟩ := Dns.shows I ha rv (by simpa [PyData.showable] using sh) fun t ht => Nat.le_trans (tupleText_mem_le ht) len'
    have out : a ∉ bs := not_mem_of_deeper (.tuple g1 g2 g3 rd) (by simp only [PyData.depth]; omega) at_
    refine call_repr_slot (T := "tuple") (idr := "tuple.__repr__") (by omega) ⟨o, g1, g2⟩ F.slot_tuple_repr ?_
    refine call_tuple_reprK g1 g2 g3 out sw (g := []) hg (fun b _ => Clear.nil b) (d := PyData.depthAll ds) ?_ (fun _ _ e => e) (fun h' u tk hk => ⟨_, _, rfl, fin h' u tk hk⟩) len'
    simp only [PyData.depth] at dp
    show X.A.units + 1 + (PyData.depthAll ds + 1) < cLine
    omega
  | @dic a h =>
    cases ru
    obtain ⟨ns, o, es, ep, g1, g2, g3, he, _⟩ := dict_at I h
    refine call_repr_slot (T := "dict") (idr := "dict.__repr__") (by omega) ⟨o, g1, g2⟩ F.slot_dict_repr ?_
    refine call_dict_reprK (as := []) (d := 0) (ps := []) g1 g2 g3 ns (fun z => nomatch z) (by rw [he]; exact .nil) (g := []) hg (fun b _ => Clear.nil b) ?_ (fun _ _ e => e) (fun h' u tk hk => ⟨_, _, rfl, fin h' u tk hk⟩) len
    show X.A.units + 1 + (0 + 1) < cLine
    omega
end Gy

/-! len(set(t)) of a tuple of texts, of any number of them. -/
namespace Xs
open PySem PySem.Spec PyProof.Rows L2
/-- how many different ones the first i are -/
def numd (xs : List Str) : Nat → Nat
  | 0 => 0
  | i + 1 => if xs.getD i Str.empty ∈ xs.take i then numd xs i else numd xs i + 1
theorem numd_le (xs : List Str) : ∀ i, numd xs i ≤ i
  | 0 => Nat.le_refl _
  | i + 1 => by
    have := numd_le xs i
    unfold numd
    split <;> omega
theorem numd_full (xs : List Str) : ∀ i, i ≤ xs.length → (numd xs i = i ↔ (xs.take i).Nodup)
  | 0, _ => by simp [numd]
  | i + 1, hi => by
    have lt : i < xs.length := hi
    have ih := numd_full xs i (Nat.le_of_lt lt)
    have le := numd_le xs i
    have e : xs.getD i Str.empty = xs[i] := by rw [List.getD_eq_getElem?_getD, List.getElem?_eq_getElem lt]; rfl
    have t : xs.take (i + 1) = xs.take i ++ [xs[i]] := by rw [List.take_add_one, List.getElem?_eq_getElem lt]; rfl
    unfold numd
    rw [e, t]
    by_cases m : xs[i] ∈ xs.take i
    · rw [if_pos m]
      refine ⟨fun z => by omega, fun z => ?_⟩
      rw [List.nodup_append] at z
      exact absurd rfl (z.2.2 _ m _ List.mem_cons_self)
    · rw [if_neg m]
      refine ⟨fun z => ?_, fun z => ?_⟩
      · rw [List.nodup_append]
        refine ⟨ih.mp (by omega), by simp, fun a ha b hb ab => ?_⟩
        rw [List.mem_singleton.mp hb] at ab
        exact m (ab ▸ ha)
      · rw [List.nodup_append] at z
        rw [ih.mpr z.1]
section
variable {P : Program} {w : World} {A : Around} {R : Result → Shared → Prop} {J : Addr} {fp wr : List Addr} {G : Array GenState → Array GenState → Prop} {n : Nat} {Y : Nat → Value → Prop} {Z : Nat → Shared → Prop}
/-- the set takes text after text -/
theorem take_texts (W : WalksS P w A.in1 J fp wr G n Y Z) (S : Addr) (out : S ∉ fp) (xs : List Str) (len : xs.length = n) (room : n + 1 < scanBound) (val : ∀ i v, Y i v → ∃ t, v = .str (xs.getD i Str.empty) t) :
    ∀ (k i : Nat) (s : Shared), n - i = k → i ≤ n → Z i s → s.heap.SetOf (strKind P w) S (fun x => decide (x ∈ xs.take i)) (numd xs i) →
      (∀ s2, Moved (S :: wr) G s s2 → s2.heap.SetOf (strKind P w) S (fun x => decide (x ∈ xs.take n)) (numd xs n) → R (.ok (.ret .none)) s2) →
      codeAny (model P w) A (.builtin "set.update.loop" ⟨[.ref S, .ref J], []⟩) R s := by
  have out2 : S ∉ wr := fun h => out (W.sub _ h)
  have more : ∀ b ∈ wr, b ∈ S :: wr := fun b hb => List.mem_cons_of_mem _ hb
  intro k
  induction k with
  | zero =>
    intro i s ek le z hS fin
    obtain rfl : i = n := by omega
    refine codeAny_builtin PyProof.Rows.F.entry_set_update_loop ?_; rw [Around.under_plainId PyProof.Rows.F.plain_set_update_loop _]
    show wpAny _ A.in1 (pyNext (.ref J) >>= _) _ _ s
    refine wpAny_bind (W.done s _ _ z fun s2 mv => ?_)
    obtain ⟨o, es, ep, t, ho, rest⟩ := hS
    exact wpAny_pure (fin s2 (mv.mono more) ⟨o, es, ep, t, mv.heap S _ out2 ho, rest⟩)
  | succ k ih =>
    intro i s ek le z hS fin
    have lt : i < n := by omega
    refine codeAny_builtin PyProof.Rows.F.entry_set_update_loop ?_; rw [Around.under_plainId PyProof.Rows.F.plain_set_update_loop _]
    show wpAny _ A.in1 (pyNext (.ref J) >>= _) _ _ s
    refine wpAny_bind (W.item i s _ _ lt z fun v s2 hY z2 mv => ?_)
    obtain ⟨t, rfl⟩ := val i v hY
    have hS2 : s2.heap.SetOf (strKind P w) S (fun x => decide (x ∈ xs.take i)) (numd xs i) := by
      obtain ⟨o, es, ep, tb, ho, rest⟩ := hS
      exact ⟨o, es, ep, tb, mv.heap S _ out2 ho, rest⟩
    show wpAny _ A.in1 (holding [Value.str (xs.getD i Str.empty) t] (setAdd S (.str (xs.getD i Str.empty) t)) >>= _) _ _ s2
    refine wpAny_bind (wpAny_holding ?_); unfold setAdd; refine wpAny_holding ?_
    refine wpAny_bind ((strKind P w).pyHash (k := xs.getD i Str.empty) (strKind_is _ _ _ _) ?_)
    have nl := numd_le xs i
    refine wpAny_setAddHashed_of (knd := strKind P w) (s := { s2 with toks := s2.toks + 1 }) (strKind_is _ _ _ _) rfl hS2 (by omega) fun h3 sb hS3 => ?_
    have hS4 : h3.SetOf (strKind P w) S (fun x => decide (x ∈ xs.take (i + 1))) (numd xs (i + 1)) := by
      have lt' : i < xs.length := by omega
      have e : xs.getD i Str.empty = xs[i] := by rw [List.getD_eq_getElem?_getD, List.getElem?_eq_getElem lt']; rfl
      have t : xs.take (i + 1) = xs.take i ++ [xs[i]] := by rw [List.take_add_one, List.getElem?_eq_getElem lt']; rfl
      refine SetOf_congr hS3 (fun x => ?_) ?_
      · show (decide (x ∈ xs.take i) || decide (x = xs.getD i Str.empty)) = decide (x ∈ xs.take (i + 1))
        rw [e, ← Bool.decide_or]
        congr 1
        rw [t, List.mem_append, List.mem_singleton]
      · show _ = if xs.getD i Str.empty ∈ xs.take i then numd xs i else numd xs i + 1
        simp only [decide_eq_true_eq]
    refine wpAny_pure ⟨plainId_quiet PyProof.Rows.F.plain_set_update_loop _, ih (i + 1) _ (by omega) lt (W.frame _ s2 _ _ z2 (Nat.le_succ _) fun b hb o e => ?_) hS4 fun s4 mv4 hS5 => ?_⟩
    · rw [sb.2 b (fun h : b = S => out (h ▸ hb))]
      exact e
    · refine fin s4 (Moved.trans W.gtrans ((mv.mono more).then_heap (Nat.le_succ _) fun b o hb e => ?_) mv4) hS5
      rw [sb.2 b (fun h : b = S => hb (h ▸ List.mem_cons_self))]
      exact e
end
/-- the set before anything is in it -/
def set0 (b : Bool) : Obj := { cls := .type "set", dict := none, data := .set #[] 0 (.fresh 0 0 b) }
section
variable {P : Program} {w : World} {A : Around} {E : Value → Shared → Prop} {s : Shared}
set_option maxHeartbeats 3200000 in
theorem set_of_texts {l : Addr} {its : Array Value} {xs : List Str} {Q : Value → Shared → Prop} (calm : A.handled = none) (at_ : s.heap.IsTuple l its) (are : StrsAre its.toList xs) (room : xs.length + 1 < scanBound)
    (fin : ∀ (h2 : Heap) (tk : Nat), h2.SetOf (strKind P w) s.heap.objs.size (fun x => decide (x ∈ xs)) (numd xs xs.length) → (∀ b o, b < s.heap.objs.size → s.heap.get? b = some o → h2.get? b = some o) → Q (.ref s.heap.objs.size) { s with heap := h2, toks := tk }) :
    wpAny (model P w) A (call (.type "set") [.ref l]) Q E s := by
  have sz : xs.length = its.size := by rw [← StrsAre.len_eq are, Array.length_toList]
  obtain ⟨_, _, m0⟩ := PySem.F.called_set.mro
  have m1 := PySem.F.called_set.made; have m2 := PySem.F.called_set.sub
  refine wpAny_call (codeAny_of_tree ?_); show wpAny _ _ (callAny (.type "set") _) _ _ _
  refine wpAny_pure ⟨Code.quiet_builtin _ (by decide +kernel), codeAny_builtin PySem.F.entry_type_call ?_⟩; rw [Around.under_plain (weight_type_call_type "set" [.ref l] []) rfl]
  have m3 := PySem.F.called_set.notType; have m4 := PySem.F.called_set.canCreate; have m5 := PySem.F.typeCall_set_1 (.ref l)
  repeat (any_goals (first | assumption | wp_step))
  refine codeAny_mono (code_set_new_1 (.ref l) (E := E) (Q₁ := fun ob s1 => ∃ led : Bool, ob = .ref s.heap.objs.size ∧ s1 = { s with heap := s.heap.push (set0 led) }) fun led => ⟨led, rfl, rfl⟩) fun r s1 hr => ?_
  rcases r with e | (_ | _ | _ | ob)
  · exact hr
  · exact hr.elim
  · exact hr.elim
  · exact hr.elim
  obtain ⟨led, rfl, rfl⟩ := hr
  have got : (s.heap.push (set0 led)).get? s.heap.objs.size = some (set0 led) := Heap.get?_push_size _ rfl
  have ty : Shared.TypeIs { s with heap := s.heap.push (set0 led) } (.ref s.heap.objs.size) "set" := ⟨_, got, rfl⟩
  have m6 := PySem.F.called_set.init.lookup; have m7 := PySem.F.called_set.init.bind (.ref s.heap.objs.size)
  repeat (any_goals (first | assumption | wp_step))
  refine codeAny_mono (codeAny_call_builtin (R := wants (fun r s2 => r = .none ∧ ∃ h2 tk, s2 = { s with heap := h2, toks := tk } ∧ h2.SetOf (strKind P w) s.heap.objs.size (fun x => decide (x ∈ xs)) (numd xs xs.length) ∧
      (∀ b o, b < s.heap.objs.size → s.heap.get? b = some o → h2.get? b = some o)) E) PySem.F.called_set.init.plain PySem.F.entry_set_init (check_set_init_1 ty ?_)) fun r2 s2 hr2 => ?_
  · obtain ⟨ol, go, co, nl, dl⟩ := at_
    obtain ⟨ocls, odict, odata, oslots⟩ := ol
    simp only at co dl
    subst co dl
    have go2 : (s.heap.push (set0 led)).get? l = some { cls := .type "tuple", dict := odict, data := .seq its nl, slots := oslots } := Heap.get?_push_of_some _ go
    have m8 := PySem.F.sub_tuple_set; have m9 := PySem.F.sub_tuple_frozenset
    have m10 : (Value.type "tuple" == Value.type "dict") = false := by decide
    have at2 : (s.heap.push (set0 led)).IsTuple l its := ⟨_, go2, rfl, nl, rfl⟩
    unfold Builtin.«set.__init__» noKeywords Builtin.Frozenset.updateFrom; generalize ePI : pyIter = PI
    wp_walk
    subst ePI
    refine wpAny_pyIter_tuple at2 (wpAny_bind (wpAny_runValue ?_))
    have low : l < s.heap.objs.size := Heap.lt_size go
    have calm3 : A.in1.in1.in1.handled = none := by simp [calm]
    have far : l ≠ (s.heap.push (set0 led)).objs.size := by rw [Heap.size_push]; exact Nat.ne_of_lt (Nat.lt_succ_of_lt low)
    have out : s.heap.objs.size ∉ [(s.heap.push (set0 led)).objs.size, l] := by
      rw [Heap.size_push]
      simp only [List.mem_cons, List.not_mem_nil, or_false, not_or]
      exact ⟨Nat.ne_of_lt (Nat.lt_succ_self _), Nat.ne_of_gt low⟩
    refine take_texts ((Walks.tuple calm3 _ l far its).toS) s.heap.objs.size out xs sz (by rw [← sz]; exact room) (fun i v hv => SS.strs_at are i v (by rw [Array.getElem?_toList]; exact hv)) (its.size - 0) 0 _ (by omega) (Nat.zero_le _)
      ⟨⟨_, Heap.get?_push_size _ rfl, rfl, rfl⟩, at2.push _⟩ ?first ?last
    case first =>
      have got2 : ((s.heap.push (set0 led)).push { cls := .type "tuple_iterator", data := .fields #[.ref l, .int 0 0] }).get? s.heap.objs.size = some (set0 led) := Heap.get?_push_of_some _ got
      exact SetOf_congr ((setObjOf_fresh (knd := strKind P w) led).setOf got2 (by unfold scanBound; omega)) (fun _ => rfl) rfl
    case last =>
      intro s2 mv hS
      obtain ⟨h2, g2, d2, tk2, os2⟩ := s2
      obtain rfl : g2 = s.gens := mv.gens
      obtain rfl : d2 = s.drawn := mv.drawn
      obtain rfl : os2 = s.os := mv.os
      rw [← sz, List.take_of_length_le (Nat.le_refl _)] at hS
      show wpAny _ _ _ _ _ _
      refine wpAny_pure (wpAny_pure ⟨rfl, h2, tk2, rfl, hS, fun b o lb e => ?_⟩)
      refine mv.heap b o ?_ (Heap.get?_push_of_some _ (Heap.get?_push_of_some _ e))
      rw [Heap.size_push]
      simp only [List.mem_cons, List.not_mem_nil, or_false, not_or]
      exact ⟨Nat.ne_of_lt lb, Nat.ne_of_lt (Nat.lt_succ_of_lt lb)⟩
  · rcases r2 with e | (_ | _ | _ | r)
    · exact hr2
    · exact hr2.elim
    · exact hr2.elim
    · exact hr2.elim
    obtain ⟨rfl, h2, tk, rfl, hS, keep⟩ := hr2
    repeat (any_goals (first | assumption | wp_step))
    exact fin _ _ hS keep
end
section
variable {X : Cx}
/-- len(set(t)), t a tuple of texts -/
def tLenTexts (K : PySem.W.Frag) (ta : TE) : TE := fun σ H Q => ta σ H fun x H1 => ∃ (l : Addr) (xs : List Str), x = .ref l ∧ SqT K H1 l (xs.map V.str) ∧ xs.length ≤ 4000 ∧ Q (.int (numd xs xs.length : Nat)) H1
theorem pe_lenTexts {a : Expr} {ta : TE} {p p2 q pos : Pos} (hg : Gl X "len") (hm : X.mg "len" = none) (hg2 : Gl X "set") (hm2 : X.mg "set" = none) (ha : PE X a ta) (calm : X.calm = true := by rfl)
    (na : starEach [a] X.env = (false, eval a X.env) :: starEach [] X.env := by rfl) : PE X (.Call (.Name "len" p) [.Call (.Name "set" p2) [a] [] q] [] pos) (tLenTexts X.K ta) := by
  refine ⟨fun pins s σ H Q I h => Call_ (ld_blt I hg hm boot_len ?_)⟩
  refine PyProof.Rows.callWith_builtin1 (PyProof.Rows.args_cons (Call_ (ld_blt I hg2 hm2 boot_set ?_)) rfl) rfl rfl
  refine PyProof.Rows.callWith_type1 (PyProof.Rows.args_cons (thn (ha.run pins s σ H _ I h) fun v s1 ⟨x, H1, I1, r1, q1⟩ => PyProof.Rows.args_nil ?_) na) na rfl
  obtain ⟨l, xs, rfl, sq, le, q1⟩ := q1
  cases r1
  obtain ⟨its, r, pl, _⟩ := I1.tuple sq
  refine set_of_texts (I1.ok.hd calm) pl (by simpa using strsAre_of r) (by unfold scanBound; omega) fun h2 tk hS keep => ?_
  refine PyProof.Rows.args_nil ?_
  obtain ⟨o, es, ep, t, ho, ex, hd, _, _, _, hf, hn⟩ := hS
  have I2 : Inv X pins σ H1 { s1 with heap := h2, toks := tk } := I1.kept fun b o e => keep b o (Heap.lt_size e) e
  have nl := numd_le xs xs.length
  exact call_len_set ho ex hd hf (by rw [hn]; omega) ⟨.int (numd xs xs.length : Nat), H1, I2.tok _, ⟨_, by rw [hn]⟩, q1⟩
end
end Xs

/-! Defs and what is known of them in one word; the built-in names that are not taken. -/
namespace My
open PySem PySem.Spec PyProof.Rows L2 Gy Xl Xs Xt
/-- no name of the module's own hides a built-in one -/
structure Bn (mg : Str → Option Value) : Prop where
  len : mg "len" = none
  range : mg "range" = none
  abs : mg "abs" = none
  max : mg "max" = none
  min : mg "min" = none
  divmod : mg "divmod" = none
  isinstance : mg "isinstance" = none
  str : mg "str" = none
  int : mg "int" = none
  bool : mg "bool" = none
  tuple : mg "tuple" = none
  list : mg "list" = none
  set : mg "set" = none
  dict : mg "dict" = none
  all : mg "all" = none
  any : mg "any" = none
  repr : mg "repr" = none
  sorted : mg "sorted" = none
  enumerate : mg "enumerate" = none
  zip : mg "zip" = none
/-- a def of the top, by its name, with its promise -/
structure Fk (P : Program) (w : World) (K : PySem.W.Frag) (mg : Str → Option Value) (base : Heap) (CX : CXT) (k : Nat) (nm : Str) (ps : List Str) (sp : Sp) : Prop where
  ex : ∃ (f : Addr) (fd : FuncData), mg nm = some (.ref f) ∧ PySem.W.keepIn K (.ref f) = true ∧ Binds K fd ps [] ∧ FnOk P w K mg base CX k f fd ps sp
/-- the same where no repr is under way -/
structure Fg (P : Program) (w : World) (K : PySem.W.Frag) (mg : Str → Option Value) (base : Heap) (CX : CXT) (k : Nat) (nm : Str) (ps : List Str) (sp : Sp) : Prop where
  ex : ∃ (f : Addr) (fd : FuncData), mg nm = some (.ref f) ∧ PySem.W.keepIn K (.ref f) = true ∧ Binds K fd ps [] ∧ FnG P w K mg base CX k f fd ps sp
section
variable {P : Program} {w : World} {K : PySem.W.Frag} {mg : Str → Option Value} {base : Heap} {CX : CXT} {k : Nat} {nm : Str} {ps : List Str} {sp : Sp}
theorem Fk.imp {sp' : Sp} (F : Fk P w K mg base CX k nm ps sp) (h : ∀ vs H Q E, sp' vs H Q E → sp vs H Q E) : Fk P w K mg base CX k nm ps sp' := by
  obtain ⟨f, fd, a, b, c, d⟩ := F.ex
  exact ⟨f, fd, a, b, c, d.imp h⟩
theorem Fk.g (F : Fk P w K mg base CX k nm ps sp) : Fg P w K mg base CX k nm ps sp := by
  obtain ⟨f, fd, a, b, c, d⟩ := F.ex
  exact ⟨f, fd, a, b, c, .of d⟩
/-- what is raised is never raised -/
theorem passN {X : Cx} : Passes (L2.CX X.prog X.w) X (fun _ _ _ => False) := by
  rintro pins σ H s e s' I ⟨a, B, H', cls, d, _, _, _, _, _, _, _, f⟩
  exact f.elim
end
section
variable {X : Cx} {CX : CXT} {k : Nat} {ps : List Str} {sp : Sp} {E : XK} {x : Str} {p pos : Pos} {e : Expr} {es : List Expr} {t : TA}
theorem pe_callF (F : Fk X.prog X.w X.K X.mg X.base CX k x ps sp) (hr : Room k X.A) (hg : Gl X x) (hx : Passes CX X E) (ha : PA X (e :: es) t)
    (hdb : (x == ("__debug__" : Str)) = false := by decide) (he : starEach (e :: es) X.env = (false, eval e X.env) :: starEach es X.env := by rfl)
    (hpl : (backTo pos (starEach es X.env)).any (·.1) = false := by rfl) : PE X (.Call (.Name x p) (e :: es) [] pos) (tCall sp [] E t) := by
  obtain ⟨f, fd, m, kp, b, G⟩ := F.ex
  exact pe_call G hr hg m kp b .nil hx ha hdb he hpl
theorem pe_callFg (F : Fg X.prog X.w X.K X.mg X.base CX k x ps sp) (gd : X.A.guards = some []) (hr : Room k X.A) (hg : Gl X x) (hx : Passes CX X E) (ha : PA X (e :: es) t)
    (hdb : (x == ("__debug__" : Str)) = false := by decide) (he : starEach (e :: es) X.env = (false, eval e X.env) :: starEach es X.env := by rfl)
    (hpl : (backTo pos (starEach es X.env)).any (·.1) = false := by rfl) : PE X (.Call (.Name x p) (e :: es) [] pos) (tG sp E t) := by
  obtain ⟨f, fd, m, kp, b, G⟩ := F.ex
  exact pe_callG G gd hr hg m kp b hx ha hdb he hpl
end
/-! ### heaps -/
theorem same_upd {H : Hp} {p : Addr} {o : HO} (h : H p = none) : Same H (upd H p o) := fun b x e => by
  rw [upd_ne (ne_of_none e h)]
  exact e
/-- a new object that is written once more: what stood before stands -/
theorem same_upd2 {H0 H : Hp} {p : Addr} {o : HO} (s : Same H0 H) (h : H0 p = none) : Same H0 (upd H p o) := fun b x e => by
  rw [upd_ne (ne_of_none e h)]
  exact s b x e
/-- all but r stands -/
def But (r : Addr) (H H' : Hp) : Prop := ∀ b o, b ≠ r → H b = some o → H' b = some o
theorem But.refl (r : Addr) (H : Hp) : But r H H := fun _ _ _ h => h
theorem But.trans {r : Addr} {H H1 H2 : Hp} (a : But r H H1) (b : But r H1 H2) : But r H H2 := fun c o n h => b c o n (a c o n h)
theorem But.of {r : Addr} {H H' : Hp} (s : Same H H') : But r H H' := fun c o _ h => s c o h
theorem But.upd {r L : Addr} {H H' : Hp} {o : HO} (h : But r H H') (n : H L = none) : But r H (L2.upd H' L o) := fun c u nc e => by
  rw [upd_ne (ne_of_none e n)]
  exact h c u nc e
theorem small200 {n : Nat} (h : n ≤ 200) : n < sizeLine := Nat.lt_of_le_of_lt h (by decide)
theorem le200 {n : Nat} (h : n ≤ 200) : n ≤ sizeLine := Nat.le_of_lt (small200 h)
/-- an item of a list of texts, by a number below its length -/
theorem at_in {α : Type} {xs : List α} {d : Int} (h0 : 0 ≤ d) (h1 : d < (xs.length : Int)) : ∃ v, atI xs d = some v ∧ v ∈ xs := by
  obtain ⟨j, rfl⟩ := Int.eq_ofNat_of_zero_le h0
  have hj : j < xs.length := by omega
  exact ⟨xs[j], atI_nat (List.getElem?_eq_getElem hj), List.getElem_mem hj⟩
theorem fun_g0 {P : Program} {w : World} {K : PySem.W.Frag} {mg : Str → Option Value} {base : Heap} {k : Nat} {f : Addr} {fd : FuncData} {ps N : List Str} {sp : Sp} {x qual : Str} {st : Stmt} (F : Fun K x qual st f fd) (S : FnScope N ps (defScope st)) (ln : ∀ {vs H Q E}, sp vs H Q E → vs.length = ps.length)
    (bd : ∀ (cdv : Value) (A : Around) (outer : List Env) (s : Shared) (H : Hp) (vs : List V) (Q : VK) (E : XK), A.guards = some [] →
      Room k (A.deeper (envOfC qual (defScope st) s.heap.objs.size f cdv)) → sp vs H Q E →
      ∃ t, PSs (cxOf CX0 P w K mg base N qual (defScope st) f cdv A outer s H E).nox (defBody st) t ∧
        t { nx := fun _ H' => Q .non H', rt := Q } (start N vs) H) : FnG P w K mg base CX0 (k + 1) f fd ps sp := by
  refine fun_g F S ln fun cdv A outer s H vs Q E g hr h => ?_
  obtain ⟨t, ht, hq⟩ := bd cdv A outer s H vs Q E g hr h
  exact ⟨t, ht.nox, hq⟩
theorem Room.units70 {k : Nat} {A : Around} (r : Room k A) : A.units + 70 < cLine := by
  have := r.un
  omega
theorem all_true {n : Nat} : ((List.replicate n true).all id) = true := by
  induction n with
  | zero => rfl
  | succ n ih => rw [List.replicate_succ, List.all_cons, ih]; rfl
end My

namespace My
open PySem PySem.Spec PyProof.Rows L2
def top (i : Nat) : Stmt := PySem.Challenge.pw_relinktree_k16_relinks_judged.main.body.getD i (.Pass ⟨0, 0, 0, 0⟩)
abbrev s_is_host_name : Stmt := top 7
theorem sc_is_host_name : FnScope ["value"] ["value"] (defScope s_is_host_name) := ⟨rfl, rfl, rfl, by decide +kernel, rfl, by decide +kernel, by decide +kernel⟩
abbrev s_is_text_of : Stmt := top 8
theorem sc_is_text_of : FnScope ["value", "characters", "longest", "character"] ["value", "characters", "longest"] (defScope s_is_text_of) := ⟨rfl, rfl, rfl, by decide +kernel, rfl, by decide +kernel, by decide +kernel⟩
abbrev s_is_integer_from : Stmt := top 10
theorem sc_is_integer_from : FnScope ["value", "least"] ["value", "least"] (defScope s_is_integer_from) := ⟨rfl, rfl, rfl, by decide +kernel, rfl, by decide +kernel, by decide +kernel⟩
abbrev s_is_index : Stmt := top 11
theorem sc_is_index : FnScope ["value", "size"] ["value", "size"] (defScope s_is_index) := ⟨rfl, rfl, rfl, by decide +kernel, rfl, by decide +kernel, by decide +kernel⟩
abbrev s_is_relink : Stmt := top 14
theorem sc_is_relink : FnScope ["value", "path", "cut"] ["value"] (defScope s_is_relink) := ⟨rfl, rfl, rfl, by decide +kernel, rfl, by decide +kernel, by decide +kernel⟩
abbrev s_is_relink_path : Stmt := top 15
theorem sc_is_relink_path : FnScope ["value", "host"] ["value"] (defScope s_is_relink_path) := ⟨rfl, rfl, rfl, by decide +kernel, rfl, by decide +kernel, by decide +kernel⟩
abbrev s_is_cut_of : Stmt := top 16
theorem sc_is_cut_of : FnScope ["path", "value"] ["path", "value"] (defScope s_is_cut_of) := ⟨rfl, rfl, rfl, by decide +kernel, rfl, by decide +kernel, by decide +kernel⟩
abbrev s_check_relink : Stmt := top 17
theorem sc_check_relink : FnScope ["value"] ["value"] (defScope s_check_relink) := ⟨rfl, rfl, rfl, by decide +kernel, rfl, by decide +kernel, by decide +kernel⟩
abbrev s_added_link : Stmt := top 18
theorem sc_added_link : FnScope ["relink", "path"] ["relink"] (defScope s_added_link) := ⟨rfl, rfl, rfl, by decide +kernel, rfl, by decide +kernel, by decide +kernel⟩
abbrev s_removed_link : Stmt := top 19
theorem sc_removed_link : FnScope ["relink", "path", "cut"] ["relink"] (defScope s_removed_link) := ⟨rfl, rfl, rfl, by decide +kernel, rfl, by decide +kernel, by decide +kernel⟩
abbrev s_link_between : Stmt := top 20
theorem sc_link_between : FnScope ["one", "other"] ["one", "other"] (defScope s_link_between) := ⟨rfl, rfl, rfl, by decide +kernel, rfl, by decide +kernel, by decide +kernel⟩
abbrev s_position : Stmt := top 21
theorem sc_position : FnScope ["relink", "host", "path"] ["relink", "host"] (defScope s_position) := ⟨rfl, rfl, rfl, by decide +kernel, rfl, by decide +kernel, by decide +kernel⟩
abbrev s_is_near : Stmt := top 22
theorem sc_is_near : FnScope ["relink", "host"] ["relink", "host"] (defScope s_is_near) := ⟨rfl, rfl, rfl, by decide +kernel, rfl, by decide +kernel, by decide +kernel⟩
abbrev s_are_independent : Stmt := top 23
theorem sc_are_independent : FnScope ["one", "other", "host"] ["one", "other"] (defScope s_are_independent) := ⟨rfl, rfl, rfl, by decide +kernel, rfl, by decide +kernel, by decide +kernel⟩
abbrev s_law_rng : Stmt := top 25
theorem sc_law_rng : FnScope ["_law_script", "_law_k", "_law_cell"] ["_law_script", "_law_k"] (defScope s_law_rng) := ⟨rfl, rfl, rfl, by decide +kernel, rfl, by decide +kernel, by decide +kernel⟩
abbrev s_law_draw : Stmt := top 26
theorem sc_law_draw : FnScope ["_law_rng_here", "_law_many", "_law_digit"] ["_law_rng_here", "_law_many"] (defScope s_law_draw) := ⟨rfl, rfl, rfl, by decide +kernel, rfl, by decide +kernel, by decide +kernel⟩
abbrev s_law_names : Stmt := top 27
theorem sc_law_names : FnScope ["_law_rng_here", "_law_many", "_law_letters", "_law_found", "_law_k", "_law_size", "_law_name", "_law_kind", "_law_turn", "_law_letter"] ["_law_rng_here", "_law_many"] (defScope s_law_names) := ⟨rfl, rfl, rfl, by decide +kernel, rfl, by decide +kernel, by decide +kernel⟩
abbrev s_law_shuffled : Stmt := top 28
theorem sc_law_shuffled : FnScope ["_law_rng_here", "_law_some", "_law_rest", "_law_k"] ["_law_rng_here", "_law_some"] (defScope s_law_shuffled) := ⟨rfl, rfl, rfl, by decide +kernel, rfl, by decide +kernel, by decide +kernel⟩
abbrev s_law_odd : Stmt := top 29
theorem sc_law_odd : FnScope ["_law_rng_here", "_law_some"] ["_law_rng_here"] (defScope s_law_odd) := ⟨rfl, rfl, rfl, by decide +kernel, rfl, by decide +kernel, by decide +kernel⟩
abbrev s_law_is_name : Stmt := top 30
theorem sc_law_is_name : FnScope ["_law_value", "_law_sign"] ["_law_value"] (defScope s_law_is_name) := ⟨rfl, rfl, rfl, by decide +kernel, rfl, by decide +kernel, by decide +kernel⟩
abbrev s_law_is_right : Stmt := top 31
theorem sc_law_is_right : FnScope ["_law_value", "_law_way", "_law_at", "_law_name"] ["_law_value"] (defScope s_law_is_right) := ⟨rfl, rfl, rfl, by decide +kernel, rfl, by decide +kernel, by decide +kernel⟩
abbrev s_law_drawn : Stmt := top 32
theorem sc_law_drawn : FnScope ["_law_rng_here", "_law_names_here", "_law_way"] ["_law_rng_here", "_law_names_here"] (defScope s_law_drawn) := ⟨rfl, rfl, rfl, by decide +kernel, rfl, by decide +kernel, by decide +kernel⟩
abbrev s_law_spoilt : Stmt := top 33
theorem sc_law_spoilt : FnScope ["_law_rng_here", "_law_value", "_law_at", "_law_kind", "_law_odd_here"] ["_law_rng_here", "_law_value"] (defScope s_law_spoilt) := ⟨rfl, rfl, rfl, by decide +kernel, rfl, by decide +kernel, by decide +kernel⟩
abbrev s_law_call : Stmt := top 34
theorem sc_law_call : FnScope ["_law_kind", "_law_value", "_law_name"] ["_law_kind", "_law_value", "_law_name"] (defScope s_law_call) := ⟨rfl, rfl, rfl, by decide +kernel, rfl, by decide +kernel, by decide +kernel⟩
abbrev s_law_told : Stmt := top 35
theorem sc_law_told : FnScope ["_law_kind", "_law_value", "_law_name", "_law_told_here", "e", "_law_is_right_here"] ["_law_kind", "_law_value", "_law_name"] (defScope s_law_told) := ⟨rfl, rfl, rfl, by decide +kernel, rfl, by decide +kernel, by decide +kernel⟩
abbrev s_law_links_right : Stmt := top 36
theorem sc_law_links_right : FnScope ["_law_value", "_law_names_here", "_law_second", "_law_way", "_law_at", "_law_due", "_law_name", "_law_told_here", "_law_here", "_law_apart", "_law_kind", "_law_link"] ["_law_value", "_law_names_here", "_law_second"] (defScope s_law_links_right) := ⟨rfl, rfl, rfl, by decide +kernel, rfl, by decide +kernel, by decide +kernel⟩
abbrev s_law_value_right : Stmt := top 37
theorem sc_law_value_right : FnScope ["_law_rng_here", "_law_value", "_law_names_here", "_law_second", "_law_shown", "_law_due", "_law_odd_here", "_law_told_here", "_law_kind"] ["_law_rng_here", "_law_value", "_law_names_here", "_law_second"] (defScope s_law_value_right) := ⟨rfl, rfl, rfl, by decide +kernel, rfl, by decide +kernel, by decide +kernel⟩
abbrev s_law_right : Stmt := top 38
theorem sc_law_right : FnScope ["_law_rng_here", "_law_names_here", "_law_value", "_law_second", "_law_turn", "_law_odd_here"] ["_law_rng_here"] (defScope s_law_right) := ⟨rfl, rfl, rfl, by decide +kernel, rfl, by decide +kernel, by decide +kernel⟩
abbrev s_law : Stmt := top 39
theorem sc_law : FnScope ["_law_script", "_law_k"] ["_law_script"] (defScope s_law) := ⟨rfl, rfl, rfl, by decide +kernel, rfl, by decide +kernel, by decide +kernel⟩
end My

namespace My
open PySem PySem.Spec PyProof.Rows L2 Gy Xl Xs Xt
/-! ### the law's numbers: the pot, a draw, a pick -/
/-- the list of two numbers that is drawn from -/
def Rng (H : Hp) (r : Addr) : Prop := ∃ x y : Int, H r = some (.lst [.int x, .int y]) ∧ 0 ≤ x ∧ 0 ≤ y ∧ y < 1099511627776
theorem Rng.ne {H : Hp} {r l : Addr} (h : Rng H r) (hl : H l = none) : l ≠ r := fun z => by
  obtain ⟨x, y, e, _⟩ := h
  rw [← z, hl] at e
  cases e
theorem Rng.upd {H : Hp} {r l : Addr} {o : HO} (h : Rng H r) (hl : H l = none) : Rng (upd H l o) r := by
  obtain ⟨x, y, e, h2⟩ := id h
  exact ⟨x, y, by rw [upd_ne (h.ne hl).symm]; exact e, h2⟩
theorem Rng.upd2 {H : Hp} {r l : Addr} {o : HO} (h : Rng H r) (hl : l ≠ r) : Rng (L2.upd H l o) r := by
  obtain ⟨x, y, e, h2⟩ := id h
  exact ⟨x, y, by rw [upd_ne hl.symm]; exact e, h2⟩
theorem Rng.same {H H' : Hp} {r : Addr} (h : Rng H r) (s : Same H H') : Rng H' r := by
  obtain ⟨x, y, e, h2⟩ := h
  exact ⟨x, y, s _ _ e, h2⟩
section
variable {P : Program} {w : World} {K : PySem.W.Frag} {mg : Str → Option Value} {base : Heap}
def spPot (K : PySem.W.Frag) : Sp := fun vs H Q _ => ∃ (a : Addr) (ns : List Int) (k : Nat), vs = [.ref a, .int (k : Int)] ∧ SqL K H a (ns.map V.int) ∧ k ≤ 100 ∧
  ∀ H' p, Same H H' → H p = none → Rng H' p → Q (.ref p) H'
theorem max_nn (j : Int) : 0 ≤ (if j > 0 then j else 0) := by
  split <;> omega
theorem y_lo (z : Int) (k : Nat) : 0 ≤ z % 2147483587 + 211 * (k : Int) + 5 := by
  have := Int.emod_nonneg z (by decide : (2147483587 : Int) ≠ 0)
  omega
theorem y_hi (z : Int) (k : Nat) (h : k ≤ 100) : z % 2147483587 + 211 * (k : Int) + 5 < 1099511627776 := by
  have := Int.emod_lt_of_pos z (by decide : (0 : Int) < 2147483587)
  omega
theorem ok_pot {f : Addr} {fd : FuncData} (F : Fun K "_law_rng" "_law_rng" s_law_rng f fd) (Y : Bn mg) : FnOk P w K mg base CX0 1 f fd ["_law_script", "_law_k"] (spPot K) := by
  refine F.ok sc_law_rng (fun vs H Q E h => ?_) (fun cdv A outer s H vs Q E hr h => ?_)
  · obtain ⟨a, ns, k, rfl, _⟩ := h
    rfl
  · obtain ⟨a, ns, k, rfl, hS, hk, q⟩ := h
    refine ⟨_, (pss_cons (ps_set (i := 2) sc_law_rng.nd rfl (.inl rfl) (pe_ifExp (pt_cmpR op_lt (pv 1) (pe_callB call_len_seq (by rfl) Y.len PySem.boot_len (pa_cons (pv 0) pa_nil)) (nomark _)) (pe_ix ix_list (pv 0) (pv 1) (fun _ _ => rfl)) (pe_op op_add (pe_op op_mul pe_int (pv 1)) pe_int)))
 (pss_one (ps_ret (pe_lst (pa_cons (pe_callB (call_max2 rfl) (by rfl) Y.max (by decide +kernel) (pa_cons pe_int (pa_cons (pe_op op_sub (pe_callB call_abs (by rfl) Y.abs (by decide +kernel) (pa_cons (pv 2) pa_nil)) (pe_op op_pow pe_int pe_int)) pa_nil))) (pa_cons (pe_op op_add (pe_op op_add (pe_op op_mod (pe_callB call_abs (by rfl) Y.abs (by decide +kernel) (pa_cons (pv 2) pa_nil)) pe_int) (pe_op op_mul pe_int (pv 1))) pe_int) pa_nil)))))), ?_⟩
    refine ⟨_, rfl, _, rfl, a, _, rfl, .inl hS, _, _, rfl, rfl, _, rfl, ite2 (fun c1 => ?A) (fun c1 => ?B)⟩
    case' A =>
      have hk2 : k < ns.length := by
        have := of_decide_eq_true c1
        rw [List.length_map] at this
        omega
      refine ⟨_, rfl, _, rfl, a, _, _, .int ns[k], rfl, rfl, hS, atI_nat (j := k) (by rw [List.getElem?_map, List.getElem?_eq_getElem hk2]; rfl), ?_⟩
    case' B =>
      refine ⟨_, rfl, 7, _, rfl, rfl, .inl ⟨by decide, by decide⟩, _, _, rfl, rfl, ?_⟩
    all_goals
      refine ⟨_, rfl, _, rfl, 10, 18, rfl, rfl, ⟨by decide, by decide, by decide⟩, _, _, rfl, rfl, 0, _, rfl, ?_⟩
      refine ⟨_, rfl, _, rfl, _, _, rfl, rfl, (by decide : (0 : Int) < 2147483587), _, rfl, 211, _, rfl, rfl, .inl ⟨by decide, by decide⟩, _, _, rfl, rfl, _, _, rfl, rfl, ?_⟩
      refine ⟨(by show 2 ≤ sizeLine; decide), fun p hp => ?_⟩
      exact q _ p (same_upd hp) hp ⟨_, _, upd_same, max_nn _, y_lo _ k, y_hi _ k hk⟩
def spDraw : Sp := fun vs H Q _ => ∃ (r : Addr) (m : Int), vs = [.ref r, .int m] ∧ Rng H r ∧ 0 < m ∧ m < 1180591620717411303424 ∧
  ∀ H' d, But r H H' → Rng H' r → 0 ≤ d → d < m → Q (.int d) H'
theorem lg70 {m : Int} (m0 : 0 < m) (m1 : m < 1180591620717411303424) : m.natAbs.log2 < 9000 := by
  have h : m.natAbs < 2 ^ 70 := by
    show m.natAbs < 1180591620717411303424
    omega
  exact Nat.lt_of_lt_of_le ((Nat.log2_lt (by omega)).mpr h) (by decide)
theorem ok_draw {f : Addr} {fd : FuncData} (F : Fun K "_law_draw" "_law_draw" s_law_draw f fd) (Y : Bn mg) : FnOk P w K mg base CX0 1 f fd ["_law_rng_here", "_law_many"] spDraw := by
  refine F.ok sc_law_draw (fun vs H Q E h => ?_) (fun cdv A outer s H vs Q E hr h => ?_)
  · obtain ⟨r, m, rfl, _⟩ := h
    rfl
  · obtain ⟨r, m, rfl, ⟨x, y, hR, x0, y0, y1⟩, m0, m1, q⟩ := h
    refine ⟨_, (pss_cons (ps_if (pt_cmpR op_gt (pe_ix ix_list (pv 0) pe_int (fun _ _ => rfl)) pe_int (nomark _))
 (pss_cons (ps_asg (pe_callB call_divmodW (by rfl) Y.divmod (by decide +kernel) (pa_cons (pe_ix ix_list (pv 0) pe_int (fun _ _ => rfl)) (pa_cons (pv 1) pa_nil))) (pg_tup (by rfl) (pgs_cons (pg_sub (pv 0) pe_int set_list) (pgs_cons (pg_name (i := 2) sc_law_draw.nd rfl (Or.inl rfl)) pgs_nil))))
 (pss_one (ps_ret (pv 2))))
 pss_nil)
 (pss_cons (ps_asg (pe_op op_mod (pe_op op_add (pe_op op_mul (pe_ix ix_list (pv 0) pe_int (fun _ _ => rfl)) pe_int) pe_int) pe_int) (pg_sub (pv 0) pe_int set_list))
 (pss_one (ps_ret (pe_op op_mod (pe_op op_fdiv (pe_op op_mod (pe_op op_mul (pe_ix ix_list (pv 0) pe_int (fun _ _ => rfl)) (pe_ix ix_list (pv 0) pe_int (fun _ _ => rfl))) pe_int) pe_int) (pv 1)))))), ?_⟩
    refine ⟨_, rfl, r, _, 0, .int x, rfl, rfl, SqL.of hR, atI_nat (j := 0) rfl, _, _, rfl, rfl, _, rfl, ite2 (fun c1 => ?_) (fun c1 => ?_)⟩
    · refine ⟨_, rfl, r, _, 0, .int x, rfl, rfl, SqL.of hR, atI_nat (j := 0) rfl, _, rfl, x, m, rfl, ⟨m0, PyProof.noPylong_of_log2 (lg70 m0 m1)⟩, fun p hp => ?_⟩
      have npr : r ≠ p := ne_of_none hR hp
      refine ⟨p, _, rfl, SqT.of upd_same, rfl, _, _, rfl, ?_⟩
      refine ⟨_, rfl, r, _, 0, 0, rfl, rfl, (by rw [upd_ne npr]; exact hR), rfl, ?_⟩
      refine ⟨_, _, rfl, rfl, ?_⟩
      refine ⟨_, rfl, q _ _ ?_ ⟨x / m, y, upd_same, Int.ediv_nonneg x0 (Int.le_of_lt m0), y0, y1⟩ (Int.emod_nonneg _ (by omega)) (Int.emod_lt_of_pos _ m0)⟩
      intro b o nb e
      rw [upd_ne nb, upd_ne (ne_of_none e hp)]
      exact e
    · refine ⟨_, rfl, r, _, 1, .int y, rfl, rfl, SqL.of hR, atI_nat (j := 1) rfl, y, 40692, rfl, rfl, .inl ⟨by omega, by omega⟩, _, _, rfl, rfl, _, _, rfl, rfl, (by decide : (0 : Int) < 2147483399), ?_⟩
      refine ⟨_, rfl, r, _, 1, 1, rfl, rfl, hR, rfl, ?_⟩
      have z0 := Int.emod_nonneg (y * 40692 + 12211) (by decide : (2147483399 : Int) ≠ 0)
      have z1 := Int.emod_lt_of_pos (y * 40692 + 12211) (by decide : (0 : Int) < 2147483399)
      refine ⟨_, rfl, r, _, 1, _, rfl, rfl, SqL.of upd_same, atI_nat (j := 1) rfl, _, rfl, r, _, 1, _, rfl, rfl, SqL.of upd_same, atI_nat (j := 1) rfl, _, _, rfl, rfl, .inl ⟨by omega, by omega⟩, ?_⟩
      refine ⟨_, _, rfl, rfl, (by decide : (0 : Int) < 2147483323), _, 17, rfl, rfl, ⟨by decide, by decide⟩, _, rfl, _, m, rfl, rfl, m0, ?_⟩
      refine q _ _ ?_ ⟨x, _, upd_same, x0, z0, by omega⟩ (Int.emod_nonneg _ (by omega)) (Int.emod_lt_of_pos _ m0)
      intro b o nb e
      rw [upd_ne nb]
      exact e
end
end My

namespace My
open PySem PySem.Spec PyProof.Rows L2 Gy Xl Xs Xt
/-! ### drawn host names: texts of 1 to 8 letters, all different -/
def LET : Str := "abcdefghijklmnopqrstuvwxyz"
/-- a text of 1 to 8 letters -/
def Nm (x : Str) : Prop := 1 ≤ x.length ∧ x.length ≤ 8 ∧ ∀ c ∈ x.cps.toList, c ∈ LET.cps.toList
theorem mem_cat {a b : Str} {c : Nat} (h : c ∈ (a ++ b).cps.toList) : c ∈ a.cps.toList ∨ c ∈ b.cps.toList := by
  have e : (a ++ b).cps.toList = a.cps.toList ++ b.cps.toList := by
    show (a.cps ++ b.cps).toList = _
    rw [Array.toList_append]
  rw [e] at h
  exact List.mem_append.mp h
theorem join_in {p : Nat → Prop} : ∀ ys : List Str, (∀ y ∈ ys, ∀ c ∈ y.cps.toList, p c) → ∀ c ∈ (Str.join "" ys).cps.toList, p c
  | [], _, c, h => by
    have h' : c ∈ ([] : List Nat) := h
    cases h'
  | [y], h, c, hc => h y List.mem_cons_self c hc
  | y :: z :: r, h, c, hc => by
    have hc' : c ∈ (y ++ "" ++ Str.join "" (z :: r)).cps.toList := hc
    rcases mem_cat hc' with hc' | hc'
    · rcases mem_cat hc' with hc' | hc'
      · exact h y List.mem_cons_self c hc'
      · have h' : c ∈ ([] : List Nat) := hc'
        cases h'
    · exact join_in (z :: r) (fun u hu => h u (List.mem_cons_of_mem _ hu)) c hc'
theorem join_len : ∀ ys : List Str, (∀ y ∈ ys, y.length = 1) → (Str.join "" ys).length = ys.length
  | [], _ => rfl
  | [y], h => h y List.mem_cons_self
  | y :: z :: r, h => by
    have ih := join_len (z :: r) fun u hu => h u (List.mem_cons_of_mem _ hu)
    have hy := h y List.mem_cons_self
    show (y ++ "" ++ Str.join "" (z :: r)).length = _
    rw [strLen_append, strLen_append, ih, hy]
    show 1 + 0 + (r.length + 1) = r.length + 1 + 1
    omega
theorem sum_ones : ∀ ys : List Str, (∀ y ∈ ys, y.length = 1) → (ys.map (·.length)).sum ≤ ys.length
  | [], _ => Nat.le_refl _
  | y :: r, h => by
    have h1 := h y List.mem_cons_self
    have h2 := sum_ones r fun z hz => h z (List.mem_cons_of_mem _ hz)
    rw [List.map_cons, List.sum_cons, List.length_cons]
    omega
theorem cut_some (x : Str) (n : Nat) : cutS x none (some (n : Int)) = ⟨(x.cps.toList.take (min n x.length)).toArray⟩ := by
  unfold cutS
  rw [HT.sIx_none, HT.sIx_nat, List.drop_zero, Nat.sub_zero]
/-- the first eight signs of a name with letters behind it -/
theorem nm_cut {x y : Str} (hx : Nm x) (hy : Nm y) : Nm (cutS (x ++ y) none (some 8)) := by
  have e := cut_some (x ++ y) 8
  have l : (x ++ y).length = x.length + y.length := strLen_append x y
  have l2 : (x ++ y).cps.toList.length = (x ++ y).length := Array.length_toList
  obtain ⟨h1, h2, h3⟩ := hx
  obtain ⟨k1, k2, k3⟩ := hy
  rw [show (some 8 : Option Int) = some ((8 : Nat) : Int) from rfl, e]
  refine ⟨?_, ?_, fun c hc => ?_⟩
  · show 1 ≤ ((x ++ y).cps.toList.take (min 8 (x ++ y).length)).toArray.size
    rw [List.size_toArray, List.length_take]
    omega
  · show ((x ++ y).cps.toList.take (min 8 (x ++ y).length)).toArray.size ≤ 8
    rw [List.size_toArray, List.length_take]
    omega
  · have hc' : c ∈ (x ++ y).cps.toList.take (min 8 (x ++ y).length) := by
      simpa using hc
    rcases mem_cat (List.mem_of_mem_take hc') with z | z
    · exact h3 c z
    · exact k3 c z
/-- seven signs of a name and a letter -/
def tl (x : Str) (c : Nat) : Str := cutS x none (some 7) ++ ⟨#[c]⟩
theorem tl_cps (x : Str) (c : Nat) : (tl x c).cps.toList = x.cps.toList.take (min 7 x.length) ++ [c] := by
  unfold tl
  rw [show (some 7 : Option Int) = some ((7 : Nat) : Int) from rfl, cut_some]
  show ((x.cps.toList.take (min 7 x.length)).toArray ++ #[c]).toList = _
  rw [Array.toList_append]
theorem tl_nm {x : Str} {c : Nat} (hx : Nm x) (hc : c ∈ LET.cps.toList) : Nm (tl x c) := by
  have e := tl_cps x c
  have l : (tl x c).length = (tl x c).cps.toList.length := Array.length_toList.symm
  have l2 : x.cps.toList.length = x.length := Array.length_toList
  have l3 : (x.cps.toList.take (min 7 x.length) ++ [c]).length = min 7 x.length + 1 := by
    rw [List.length_append, List.length_take, l2]
    simp
  rw [e, l3] at l
  refine ⟨by omega, by omega, fun d hd => ?_⟩
  rw [e] at hd
  rcases List.mem_append.mp hd with z | z
  · exact hx.2.2 d (List.mem_of_mem_take z)
  · rw [List.mem_singleton.mp z]
    exact hc
theorem tl_inj (x : Str) (c d : Nat) (h : tl x c = tl x d) : c = d := by
  have e : (tl x c).cps.toList = (tl x d).cps.toList := by rw [h]
  rw [tl_cps, tl_cps] at e
  have e2 := List.append_cancel_left e
  injection e2
theorem inV_strs (z : Str) : ∀ xs : List Str, inV (.str z) (xs.map V.str) = decide (z ∈ xs)
  | [] => rfl
  | x :: xs => by
    have ih := inV_strs z xs
    unfold inV at ih ⊢
    rw [List.map_cons, List.any_cons, ih]
    show (x == z || decide (z ∈ xs)) = decide (z ∈ x :: xs)
    by_cases e : x = z
    · subst e
      simp
    · rw [beq_eq_false_iff_ne.mpr e, Bool.false_or]
      congr 1
      rw [List.mem_cons, eq_iff_iff]
      exact ⟨.inr, fun h => h.resolve_left fun u => e u.symm⟩
theorem flat_strs : ∀ xs : List Str, (xs.map V.str).all flatV = true
  | [] => rfl
  | x :: xs => by
    rw [List.map_cons, List.all_cons, flat_strs xs]
    rfl
theorem len_le_of_sub {α : Type} [BEq α] [LawfulBEq α] : ∀ {l m : List α}, l.Nodup → (∀ x ∈ l, x ∈ m) → l.length ≤ m.length
  | [], _, _, _ => Nat.zero_le _
  | x :: l, m, nd, h => by
    rw [List.nodup_cons] at nd
    have hx := h x List.mem_cons_self
    have ih := len_le_of_sub (l := l) (m := m.erase x) nd.2 fun y hy => (List.mem_erase_of_ne (fun e : y = x => nd.1 (by rw [← e]; exact hy))).mpr (h y (List.mem_cons_of_mem _ hy))
    rw [List.length_erase_of_mem hx] at ih
    have : 0 < m.length := List.length_pos_of_mem hx
    rw [List.length_cons]
    omega
theorem nd_map {α β : Type} {f : α → β} (inj : ∀ a b, f a = f b → a = b) : ∀ {l : List α}, l.Nodup → (l.map f).Nodup
  | [], _ => List.nodup_nil
  | x :: l, h => by
    rw [List.nodup_cons] at h
    rw [List.map_cons, List.nodup_cons]
    refine ⟨fun z => ?_, nd_map inj h.2⟩
    obtain ⟨y, hy, e⟩ := List.mem_map.mp z
    exact h.1 (inj _ _ e ▸ hy)
theorem nodup_snoc {α : Type} {xs : List α} {x : α} (h : xs.Nodup) (n : x ∉ xs) : (xs ++ [x]).Nodup := by
  rw [List.nodup_append]
  refine ⟨h, by simp, fun a ha b hb e => n ?_⟩
  rw [List.mem_singleton.mp hb] at e
  rw [← e]
  exact ha
/-- what is tried for a name -/
def triesOf (x : Str) : List Str := x :: LET.cps.toList.map (tl x)
theorem tries_nm {x : Str} (h : Nm x) : ∀ y ∈ triesOf x, Nm y := fun y hy => by
  rcases List.mem_cons.mp hy with rfl | hy
  · exact h
  · obtain ⟨c, hc, rfl⟩ := List.mem_map.mp hy
    exact tl_nm h hc
theorem tries_out {x : Str} {xs : List Str} (h : xs.length < 26) : ∃ z zs, (triesOf x).filter (fun y => decide (y ∉ xs)) = z :: zs := by
  cases e : (triesOf x).filter (fun y => decide (y ∉ xs)) with
  | cons z zs => exact ⟨z, zs, rfl⟩
  | nil =>
    rw [List.filter_eq_nil_iff] at e
    have nd : (LET.cps.toList.map (tl x)).Nodup := nd_map (tl_inj x) (by decide +kernel)
    have le := len_le_of_sub (m := xs) nd fun y hy => by
      have z := e y (List.mem_cons_of_mem _ hy)
      exact Decidable.of_not_not fun w => z (decide_eq_true w)
    rw [List.length_map, show LET.cps.toList.length = 26 by decide +kernel] at le
    omega
theorem dps_strs {K : PySem.W.Frag} {H : Hp} : ∀ xs : List Str, DpAll K H (xs.map V.str) (xs.map PyData.str)
  | [] => .nil
  | x :: xs => .cons (.str x) (dps_strs xs)
theorem nm_ok {x : Str} (h : Nm x) : PyData.strOk x = true := by
  unfold PyData.strOk
  rw [← Array.all_toList, List.all_eq_true]
  intro c hc
  have z : ∀ d ∈ LET.cps.toList, d < 0x110000 := by decide +kernel
  exact decide_eq_true (z c (h.2.2 c hc))
theorem lay_strs : ∀ xs : List Str, (∀ x ∈ xs, Nm x) → PyData.canLayAll0 (xs.map PyData.str) = true
  | [], _ => rfl
  | b :: r, h => by
    show (PyData.strOk b && PyData.canLayAll0 (r.map PyData.str)) = true
    rw [nm_ok (h b List.mem_cons_self), lay_strs r fun x hx => h x (List.mem_cons_of_mem _ hx)]
    rfl
theorem deep_strs : ∀ xs : List Str, PyData.depthAll (xs.map PyData.str) = 0
  | [] => rfl
  | b :: r => by
    show max 0 (PyData.depthAll (r.map PyData.str)) = 0
    rw [deep_strs r]
    rfl
theorem sh_strs (xs : List Str) (h : ∀ x ∈ xs, Nm x) : SeqAt.shaped (.list (xs.map PyData.str)) = true := by
  unfold SeqAt.shaped
  rw [show PyData.canLay0 (.list (xs.map PyData.str)) = true from lay_strs xs h, show PyData.depth (.list (xs.map PyData.str)) = 1 by show PyData.depthAll _ + 1 = 1; rw [deep_strs]]
  decide
/-- the law's names of two letters -/
def qq (c : Nat) : Str := ⟨#[c]⟩ ++ "q"
theorem qq_nm {c : Nat} (h : c ∈ LET.cps.toList) : Nm (qq c) := by
  refine ⟨by show 1 ≤ (⟨#[c]⟩ ++ "q" : Str).length; rw [strLen_append]; exact Nat.le_add_right _ _, by show (⟨#[c]⟩ ++ "q" : Str).length ≤ 8; rw [strLen_append]; exact (show 1 + 1 ≤ 8 by decide), fun d hd => ?_⟩
  rcases mem_cat hd with z | z
  · have z' : d ∈ [c] := z
    rw [List.mem_singleton.mp z']
    exact h
  · have z' : d ∈ [113] := z
    rw [List.mem_singleton.mp z']
    decide +kernel
theorem qq_inj {c d : Nat} (h : qq c = qq d) : c = d := by
  have e : (qq c).cps.toList = (qq d).cps.toList := by rw [h]
  have e' : [c, 113] = [d, 113] := e
  injection e'
theorem qq_out {xs : List Str} (h : xs.length < 26) : ¬ ∀ c ∈ LET.cps.toList, qq c ∈ xs := fun all => by
  have nd : (LET.cps.toList.map qq).Nodup := by
    have n0 : LET.cps.toList.Nodup := by decide +kernel
    exact nd_map (fun a b e => qq_inj e) n0
  have := len_le_of_sub nd (m := xs) fun y hy => by
    obtain ⟨c, hc, rfl⟩ := List.mem_map.mp hy
    exact all c hc
  rw [List.length_map] at this
  have e : LET.cps.toList.length = 26 := by decide +kernel
  omega
section
variable {P : Program} {w : World} {K : PySem.W.Frag} {mg : Str → Option Value} {base : Heap}
theorem words_nm {x : Str} (h : x ∈ (["host", "link", "events", "ask", "yes", "bye", "message", "write"] : List Str)) : Nm x := by
  have z : ∀ y ∈ (["host", "link", "events", "ask", "yes", "bye", "message", "write"] : List Str), 1 ≤ y.length ∧ y.length ≤ 8 ∧ ∀ c ∈ y.cps.toList, c ∈ LET.cps.toList := by decide +kernel
  exact z x h
def spNames : Sp := fun vs H Q _ => ∃ (r : Addr) (n : Nat), vs = [.ref r, .int (n : Int)] ∧ Rng H r ∧ n ≤ 20 ∧
  ∀ (H' : Hp) (L : Addr) (xs : List Str), But r H H' → Rng H' r → H L = none → H' L = some (.lst (xs.map V.str)) → xs.length = n → (∀ x ∈ xs, Nm x) → xs.Nodup → Q (.ref L) H'
theorem ok_names {f : Addr} {fd : FuncData} (F : Fun K "_law_names" "_law_names" s_law_names f fd) (Y : Bn mg) (G_law_draw : Fk P w K mg base CX0 1 "_law_draw" ["_law_rng_here", "_law_many"] spDraw) : FnOk P w K mg base CX0 2 f fd ["_law_rng_here", "_law_many"] spNames := by
  refine F.ok sc_law_names (fun vs H Q E h => ?_) (fun cdv A outer s H vs Q E hr h => ?_)
  · obtain ⟨r, n, rfl, _⟩ := h
    rfl
  · obtain ⟨r, n, rfl, hR, n20, q⟩ := h
    have hu64 := hr.units
    refine ⟨_, (pss_cons (ps_set (i := 2) sc_law_names.nd rfl (.inr rfl) pe_str)
 (pss_cons (ps_set (i := 3) sc_law_names.nd rfl (.inr rfl) (pe_lst pa_nil))
 (pss_cons (ps_for PassesOwn.never rfl (pi_range1 (by rfl) Y.range (pa_cons (pv 1) pa_nil)) (pg_name (i := 4) sc_law_names.nd rfl (Or.inl rfl))
 (pss_cons (ps_set (i := 5) sc_law_names.nd rfl (.inl rfl) (pe_ix ix_list (pe_lst (pa_cons pe_int (pa_cons pe_int (pa_cons pe_int (pa_cons pe_int pa_nil))))) (pe_callF G_law_draw (hr.mono (by decide)) (by rfl) pass0 (pa_cons (pv 0) (pa_cons pe_int pa_nil))) (fun _ _ => rfl)))
 (pss_cons (ps_set (i := 6) sc_law_names.nd rfl (.inl rfl) (pe_join pe_str (pe_lc (own := [("_law_turn", 8)]) (g := gName 8) (tt := tYes) rfl sc_law_names.nd (pi_range1 (by rfl) Y.range (pa_cons (pv 5) pa_nil)) (blkOk_by (N := ["_law_rng_here", "_law_many", "_law_letters", "_law_found", "_law_k", "_law_size", "_law_name", "_law_kind", "_law_turn", "_law_letter"]) (sc := defScope s_law_names) (by decide +kernel)) (fun _ _ _ _ _ => (pg_name (i := 8) sc_law_names.nd rfl (Or.inl rfl))) (fun _ _ _ _ _ => pts_nil) (fun _ _ _ _ _ => (pe_ix ix_str (pv 2) (pe_callF G_law_draw (hr.mono (by decide)) (by rfl) pass0 (pa_cons (pv 0) (pa_cons pe_int pa_nil))) (fun _ _ => rfl))))))
 (pss_cons (ps_set (i := 7) sc_law_names.nd rfl (.inl rfl) (pe_callF G_law_draw (hr.mono (by decide)) (by rfl) pass0 (pa_cons (pv 0) (pa_cons pe_int pa_nil))))
 (pss_cons (ps_if (pt_cmpR op_eq (pv 7) pe_int (nomark _))
 (pss_one (ps_set (i := 6) sc_law_names.nd rfl (.inl rfl) (pe_ix ix_list (pe_lst (pa_cons pe_str (pa_cons pe_str (pa_cons pe_str (pa_cons pe_str (pa_cons pe_str (pa_cons pe_str (pa_cons pe_str (pa_cons pe_str pa_nil))))))))) (pe_callF G_law_draw (hr.mono (by decide)) (by rfl) pass0 (pa_cons (pv 0) (pa_cons pe_int pa_nil))) (fun _ _ => rfl))))
 (pss_one (ps_if (PW.pt (pw_and (pt_cmpR op_lt (pv 7) pe_int (nomark _)) (pw_and1 (pt_cmpR (op_neD hu64) (pv 3) (pe_lst pa_nil) (nomark _)))))
 (pss_one (ps_set (i := 6) sc_law_names.nd rfl (.inl rfl) (pe_slice sl_str (pe_op op_add_str (pe_ix ix_list (pv 3) (pe_un un_neg pe_int) (fun _ _ => rfl)) (pv 6)) po_none (po_some pe_int))))
 pss_nil)))
 (pss_cons (ps_if (pt_cmpR op_in_seq (pv 6) (pv 3) rfl)
 (pss_one (ps_set (i := 6) sc_law_names.nd rfl (.inl rfl) (pe_ix ix_list (pe_lc (own := [("_law_letter", 9)]) (g := gName 9) (tt := tTest (tOp (rIn K true) (tOp _ (tVar 9) (tC (.str "q"))) (tVar 3))) rfl sc_law_names.nd (pi_str (pv 2)) (blkOk_by (N := ["_law_rng_here", "_law_many", "_law_letters", "_law_found", "_law_k", "_law_size", "_law_name", "_law_kind", "_law_turn", "_law_letter"]) (sc := defScope s_law_names) (by decide +kernel)) (fun _ _ _ _ _ => (pg_name (i := 9) sc_law_names.nd rfl (Or.inl rfl))) (fun _ _ _ _ _ => (pts_one (pt_cmpR op_notIn_seq (pe_op op_add_str (pv 9) pe_str) (pv 3) rfl))) (fun _ _ _ _ _ => (pe_op op_add_str (pv 9) pe_str))) pe_int (fun _ _ => rfl))))
 pss_nil)
 (pss_one (ps_expr (pe_bm PySem.F.plainAttrs_list PySem.F.slot_list_append PySem.F.type_list_append mt_append (pv 3) (pa_cons (pv 6) pa_nil))))))))))
 (pss_one (ps_ret (pv 3)))))), ?_⟩
    refine ⟨Nat.zero_le _, fun L hL0 => ?_⟩
    have nL : L ≠ r := hR.ne hL0
    refine ⟨_, rfl, (n : Int), rfl, by omega, by omega, ?_⟩
    refine for_it (walk_range (lo := 0) (n := ((n : Int) - 0).toNat)) (fun i σ H' => (∃ a b c d e f, σ = [some (.ref r), some (.int (n : Int)), some (.str LET), some (.ref L), a, b, c, d, e, f]) ∧ But r H H' ∧ Rng H' r ∧
        ∃ xs : List Str, H' L = some (.lst (xs.map V.str)) ∧ xs.length = i ∧ (∀ x ∈ xs, Nm x) ∧ xs.Nodup)
      ⟨⟨_, _, _, _, _, _, rfl⟩, But.of (same_upd hL0), hR.upd hL0, [], upd_same, rfl, (fun _ z => nomatch z), List.nodup_nil⟩ (fun _ _ _ _ _ => trivial) ?_ ?_
    · rintro i y σ H1 H2 hi ⟨⟨a, b, c, d, e, f, rfl⟩, b1, R1, xs, hL, el, nm, nd⟩ ⟨rfl, rfl⟩
      have i20 : i < 20 := by omega
      -- the size
      refine ⟨(by show 4 ≤ sizeLine; decide), fun l hl => ?_⟩
      refine ⟨_, rfl, r, 4, rfl, R1.upd hl, by decide, by decide, fun H3 d3 b3 R3 d30 d31 => ?_⟩
      have nl : l ≠ r := R1.ne hl
      have hl3 := b3 l _ nl upd_same
      have hL3 := b3 L _ nL (same_upd hl L _ hL)
      have b03 : But r H H3 := b1.trans ((But.of (same_upd hl)).trans b3)
      obtain ⟨v, hv, mv⟩ := at_in (xs := [_, _, _, _]) d30 d31
      refine ⟨l, _, d3, v, rfl, rfl, SqL.of hl3, hv, ?_⟩
      have sz : ∃ m : Nat, v = .int (m : Int) ∧ 1 ≤ m ∧ m ≤ 8 := by
        simp only [List.mem_cons, List.not_mem_nil, or_false] at mv
        rcases mv with rfl | rfl | rfl | rfl
        · exact ⟨1, rfl, by decide, by decide⟩
        · exact ⟨1, rfl, by decide, by decide⟩
        · exact ⟨2, rfl, by decide, by decide⟩
        · exact ⟨8, rfl, by decide, by decide⟩
      clear mv hv hl3
      obtain ⟨m, rfl, m1, m8⟩ := sz
      -- the letters
      refine ⟨⟨_, rfl⟩, _, rfl, (m : Int), rfl, by omega, by omega, fun D hD => ?_⟩
      have nD : D ≠ r := R3.ne hD
      refine lc_it (walk_range (lo := 0) (n := ((m : Int) - 0).toNat)) (fun i H' => But r H3 H' ∧ Rng H' r ∧ ∃ ys : List Str, H' D = some (.lst (ys.map V.str)) ∧ ys.length = i ∧ (∀ y ∈ ys, y.length = 1) ∧ ∀ y ∈ ys, ∀ c ∈ y.cps.toList, c ∈ LET.cps.toList)
        ⟨But.of (same_upd hD), R3.upd hD, [], upd_same, rfl, (fun y z => nomatch z), fun y z => nomatch z⟩ (fun _ _ _ _ => trivial) ?_ ?_
      · rintro j y H4 H5 hj ⟨b4, R4, ys, hY, yl, y1, y2⟩ ⟨rfl, rfl⟩
        refine ⟨rfl, ?_⟩
        dsimp only [tYes]
        refine iteT ?_
        refine ⟨_, rfl, _, rfl, r, 26, rfl, R4, by decide, by decide, fun H6 d6 b6 R6 d60 d61 => ?_⟩
        obtain ⟨c, hc, mc⟩ := at_in (xs := LET.cps.toList) d60 d61
        refine ⟨LET, d6, c, rfl, rfl, (by decide), hc, _, b6 D _ nD hY, ?_, ?_, ?_, ys ++ [⟨#[c]⟩], ?_, ?_, ?_, ?_⟩
        · rw [List.length_map, yl]
          exact small200 (by omega)
        · exact (b4.trans b6).upd hD
        · obtain ⟨x1, z1, h1, h2⟩ := R6
          exact ⟨x1, z1, by rw [upd_ne nD.symm]; exact h1, h2⟩
        · rw [upd_same, List.map_append]
          rfl
        · rw [List.length_append, yl]
          rfl
        · intro y hy'
          rcases List.mem_append.mp hy' with z | z
          · exact y1 y z
          · rw [List.mem_singleton.mp z]
            rfl
        · intro y hy'
          rcases List.mem_append.mp hy' with z | z
          · exact y2 y z
          · rw [List.mem_singleton.mp z]
            intro c' hc'
            have hc2 : c' ∈ [c] := hc'
            rw [List.mem_singleton.mp hc2]
            exact mc
      rintro H4 ⟨b4, R4, ys, hY, yl, y1, y2⟩
      refine ⟨"", D, ys, rfl, rfl, .inl (SqL.of hY), ?_, ?_⟩
      · have e1 : (ys.map (·.length)).sum ≤ ys.length := sum_ones ys y1
        show (ys.map (·.length)).sum + ys.length * 0 ≤ 16777216
        omega
      rw [TL.join_eq]
      have nm0 : Nm (Str.join "" ys) := by
        have := join_len ys y1
        exact ⟨by omega, by omega, join_in ys y2⟩
      generalize Str.join "" ys = x0 at nm0 ⊢
      have hL4 := b4 L _ nL hL3
      have b04 := b03.trans b4
      clear b4 y1 y2 hY yl
      -- the kind
      refine ⟨_, rfl, r, 8, rfl, R4, by decide, by decide, fun H5 k b5 R5 k0 k1 => ?_⟩
      have hL5 := b5 L _ nL hL4
      have b05 := b04.trans b5
      clear b5 hL4 b04
      refine ⟨_, rfl, rfl, _, rfl, ite2 (fun c1 => ?A) (fun c1 => ?B)⟩
      case' A =>
        refine ⟨(by show 8 ≤ sizeLine; decide), fun l2 hl2 => ?_⟩
        refine ⟨_, rfl, r, 8, rfl, R5.upd hl2, by decide, by decide, fun H6 d6 b6 R6 d60 d61 => ?_⟩
        have nl2 : l2 ≠ r := R5.ne hl2
        have hl6 := b6 l2 _ nl2 upd_same
        have hL6 := b6 L _ nL (same_upd hl2 L _ hL5)
        have b06 : But r H H6 := b05.trans ((But.of (same_upd hl2)).trans b6)
        obtain ⟨v2, hv2, mv2⟩ := at_in (xs := (["host", "link", "events", "ask", "yes", "bye", "message", "write"] : List Str).map V.str) d60 d61
        refine ⟨l2, _, d6, v2, rfl, rfl, SqL.of hl6, hv2, ?_⟩
        obtain ⟨x9, mx, rfl⟩ := List.mem_map.mp mv2
        have nm1 := words_nm mx
        clear mv2 hv2 hl6 mx b6
      case' B =>
        refine ⟨_, rfl, k, 3, rfl, rfl, _, rfl, ite2 (fun c2 => ?C) (fun c2 => ?D)⟩
        case' C =>
          refine ⟨_, rfl, Nat.zero_le _, fun l2 hl2 => ?_⟩
          refine ⟨_, _, .lst (SqL.of (same_upd hl2 L _ hL5)) (dps_strs xs), .lst (SqL.of upd_same) .nil, sh_strs xs nm, rfl, _, rfl, ite2 (fun c3 => ?E) (fun c3 => ?G)⟩
          case' E =>
            obtain ⟨xs1, xl, ex⟩ : ∃ xs1 xl, xs = xs1 ++ [xl] := by
              cases xs with
              | nil => exact absurd c3 (by decide)
              | cons x t => exact ⟨_, _, (List.dropLast_concat_getLast (l := x :: t) (by simp)).symm⟩
            have nl := nm xl (by rw [ex]; exact List.mem_append_right _ List.mem_cons_self)
            have nm1 := nm_cut nl nm0
            refine ⟨_, rfl, 1, rfl, L, _, -1, .str xl, rfl, rfl, SqL.of (same_upd hl2 L _ hL5), (by rw [ex, List.map_append]; exact atI_last _ _), _, rfl, xl, x0, rfl, rfl, (by have := nl.2.1; have := nm0.2.1; exact Nat.le_of_lt (small200 (by omega))), 8, rfl, _, rfl, (by have := nl.2.1; have := nm0.2.1; rw [strLen_append]; exact Nat.le_of_lt (small200 (by omega))), ?_⟩
            have b06 := b05.trans (But.of (same_upd (o := .lst []) hl2))
            have R6 := R5.upd (o := .lst []) hl2
            have hL6 := same_upd (o := .lst []) hl2 L _ hL5
            generalize cutS (xl ++ x0) none (some 8) = x9 at nm1 ⊢
          case' G =>
            have nm1 := nm0
            generalize x0 = x9 at nm1 ⊢
            have b06 := b05.trans (But.of (same_upd (o := .lst []) hl2))
            have R6 := R5.upd (o := .lst []) hl2
            have hL6 := same_upd (o := .lst []) hl2 L _ hL5
        case' D =>
          have nm1 := nm0
          generalize x0 = x9 at nm1 ⊢
          have b06 := b05
          have R6 := R5
          have hL6 := hL5
      all_goals
        refine ⟨_, rfl, _, rfl, L, _, rfl, .inl (SqL.of hL6), rfl, flat_strs _, _, rfl, ite2 (fun c9 => ?_) (fun c9 => ?_)⟩
        · refine ⟨_, rfl, LET, rfl, fun D9 hD9 => ?_⟩
          refine lc_it (walk_str (z := LET)) (fun i H' => Same _ H' ∧ ∃ zs : List Str, H' D9 = some (.lst (zs.map V.str)) ∧ (∀ z ∈ zs, Nm z ∧ z ∉ xs) ∧ zs.length ≤ i ∧ (zs = [] → ∀ c ∈ LET.cps.toList.take i, qq c ∈ xs))
            ⟨same_upd hD9, [], upd_same, (fun _ z => nomatch z), Nat.le_refl _, fun _ _ z => nomatch z⟩ (fun _ _ _ _ => trivial) ?_ ?_
          · rintro j y H7 H8 hj ⟨sm, zs, hZ, hz, zl, z0⟩ ⟨rfl, c, hc, rfl⟩
            have hc' : LET.cps.toList[j]? = some c := by rw [Array.getElem?_toList]; exact hc
            have mc := List.mem_of_getElem? hc'
            refine ⟨rfl, ?_⟩
            refine ⟨_, rfl, ⟨#[c]⟩, "q", rfl, rfl, (show 1 + 1 ≤ sizeLine by decide), _, rfl, L, _, rfl, .inl (SqL.of (sm L _ hL6)), rfl, flat_strs _, _, rfl, ite2 (fun c8 => ?_) (fun c8 => ?_)⟩
            · refine ⟨_, rfl, ⟨#[c]⟩, "q", rfl, rfl, (show 1 + 1 ≤ sizeLine by decide), _, hZ, ?_, same_upd2 sm hD9, zs ++ [qq c], ?_, ?_, ?_, ?_⟩
              · rw [List.length_map]
                have : LET.cps.size = 26 := by decide +kernel
                exact small200 (by omega)
              · rw [upd_same, List.map_append]
                rfl
              · intro z mz
                rcases List.mem_append.mp mz with mz | mz
                · exact hz z mz
                · rw [List.mem_singleton.mp mz]
                  refine ⟨qq_nm mc, fun mx => ?_⟩
                  have c8' : (!inV (.str (qq c)) (xs.map V.str)) = true := c8
                  rw [inV_strs, decide_eq_true mx] at c8'
                  cases c8'
              · rw [List.length_append]
                exact Nat.succ_le_succ zl
              · intro z
                cases zs <;> cases z
            · refine ⟨sm, zs, hZ, hz, Nat.le_succ_of_le zl, fun e c' hc2 => ?_⟩
              rw [List.take_add_one, hc'] at hc2
              rcases List.mem_append.mp hc2 with hc2 | hc2
              · exact z0 e c' hc2
              · have hc3 : c' ∈ [c] := hc2
                rw [List.mem_singleton.mp hc3]
                have c8' : ¬ (!inV (.str (qq c)) (xs.map V.str)) = true := c8
                rw [inV_strs] at c8'
                cases z : decide (qq c ∈ xs) with
                | true => exact of_decide_eq_true z
                | false => exact absurd (by rw [z]; rfl) c8'
          · rintro H7 ⟨sm, zs, hZ, hz, zl, z0⟩
            cases zs with
            | nil =>
              refine absurd (z0 rfl) ?_
              rw [List.take_of_length_le (by rw [Array.length_toList]; exact Nat.le_refl _)]
              exact qq_out (by omega)
            | cons z zs =>
              obtain ⟨nz, oz⟩ := hz z List.mem_cons_self
              refine ⟨D9, _, 0, .str z, rfl, rfl, SqL.of hZ, atI_nat (j := 0) rfl, ?_⟩
              refine ⟨_, rfl, .inl ⟨rfl, _, SqL.of (sm L _ hL6)⟩, _, rfl, L, _, _, rfl, rfl, sm L _ hL6, (by rw [List.length_map]; exact small200 (by omega)), ⟨_, _, _, _, _, _, rfl⟩, ?_, ?_, xs ++ [z], ?_, ?_, ?_, nodup_snoc nd oz⟩
              · exact (b06.trans (But.of sm)).upd hL0
              · obtain ⟨x1, z1, h1, h2⟩ := R6.same sm
                exact ⟨x1, z1, by rw [upd_ne nL.symm]; exact h1, h2⟩
              · rw [upd_same, List.map_append]
                rfl
              · rw [List.length_append, el]
                rfl
              · intro x hx
                rcases List.mem_append.mp hx with hx | hx
                · exact nm x hx
                · rw [List.mem_singleton.mp hx]
                  exact nz
        · refine ⟨_, rfl, .inl ⟨rfl, _, SqL.of hL6⟩, _, rfl, L, _, _, rfl, rfl, hL6, (by rw [List.length_map]; exact small200 (by omega)), ⟨_, _, _, _, _, _, rfl⟩, b06.upd hL0, ?_, xs ++ [x9], ?_, ?_, ?_, nodup_snoc nd ?_⟩
          · obtain ⟨x1, z1, h1, h2⟩ := R6
            exact ⟨x1, z1, by rw [upd_ne nL.symm]; exact h1, h2⟩
          · rw [upd_same, List.map_append]
            rfl
          · rw [List.length_append, el]
            rfl
          · intro x hx
            rcases List.mem_append.mp hx with hx | hx
            · exact nm x hx
            · rw [List.mem_singleton.mp hx]
              exact nm1
          · intro mx
            exact absurd (by rw [inV_strs]; exact decide_eq_true mx) c9
    · rintro σ H1 ⟨⟨a, b, c, d, e, f, rfl⟩, b1, R1, xs, hL, el, nm, nd⟩
      exact ⟨_, rfl, q _ L xs b1 R1 hL0 hL (by omega) nm nd⟩
end
end My

namespace My
open PySem PySem.Spec PyProof.Rows L2 Gy Xl Xs Xt
/-! ### texts of some signs -/
def allIn (cs x : Str) : Bool := x.cps.toList.all fun c => decide (c ∈ cs.cps.toList)
def textOf (v : V) (cs : Str) (n : Int) : Bool := match v with
  | .str x => decide ((1 : Int) ≤ (x.length : Int)) && decide ((x.length : Int) ≤ n) && allIn cs x
  | _ => false
/-- a value whose kind is known -/
inductive Kd (K : PySem.W.Frag) (H : Hp) : V → Prop
  | str (x : Str) (h : x.length ≤ sizeLine) : Kd K H (.str x)
  | oth {v : V} {t : String} (ty : TyX K H v (.type t)) (n : kitB t "str" = some false) (no : ∀ x, v ≠ .str x) : Kd K H v
theorem textOf_oth {v : V} (no : ∀ x, v ≠ .str x) (cs : Str) (n : Int) : textOf v cs n = false := by
  cases v with
  | str x => exact absurd rfl (no x)
  | _ => rfl

section
variable {P : Program} {w : World} {K : PySem.W.Frag} {mg : Str → Option Value} {base : Heap}
def spText (K : PySem.W.Frag) : Sp := fun vs H Q _ => ∃ (v : V) (cs : Str) (n : Int), vs = [v, .str cs, .int n] ∧ Kd K H v ∧
  ∀ H', Same H H' → Q (.bl (textOf v cs n)) H'
theorem take_succ_all {l : List Nat} {i c : Nat} (h : l[i]? = some c) (p : Nat → Bool) : (l.take (i + 1)).map p = (l.take i).map p ++ [p c] := by
  rw [List.take_add_one, h, List.map_append]
  rfl
theorem ok_text {f : Addr} {fd : FuncData} (F : Fun K "is_text_of" "is_text_of" s_is_text_of f fd) (Y : Bn mg) :
    FnOk P w K mg base CX0 1 f fd ["value", "characters", "longest"] (spText K) := by
  refine F.ok sc_is_text_of (fun vs H Q E h => ?_) (fun cdv A outer s H vs Q E hr h => ?_)
  · obtain ⟨v, cs, n, rfl, _⟩ := h
    rfl
  · obtain ⟨v, cs, n, rfl, kd, q⟩ := h
    refine ⟨_, (pss_cons (ps_if (PW.pt (pw_or (pt_not (pt_val (pe_callB call_isi (by rfl) Y.isinstance (by decide +kernel) (pa_cons (pv 0) (pa_cons (pe_bltn (v := .ty "str") (by rfl) Y.str (by decide +kernel) rfl) pa_nil))))) (pw_or1 (pt_not (pt_chain op_le op_le pe_int (pe_callB call_len_str (by rfl) Y.len PySem.boot_len (pa_cons (pv 0) pa_nil)) (pv 2))))))
 (pss_one (ps_ret pe_bl))
 pss_nil)
 (pss_one (ps_ret (pe_callB (cr_all rfl) (by rfl) Y.all (by decide +kernel) (pa_cons (pe_lc (own := [("character", 3)]) (g := gName 3) (tt := tYes) rfl sc_is_text_of.nd (pi_str (pv 0)) (blkOk_by (N := ["value", "characters", "longest", "character"]) (sc := defScope s_is_text_of) (by decide +kernel)) (fun _ _ _ _ _ => (pg_name (i := 3) sc_is_text_of.nd rfl (Or.inl rfl))) (fun _ _ _ _ _ => pts_nil) (fun _ _ _ _ _ => (pe_cmpR op_in_sign (pv 3) (pv 1) rfl))) pa_nil))))), ?_⟩
    cases kd with
    | oth ty no nos =>
      refine ⟨v, rfl, v, _, _, _, false, rfl, .ty "str", ty, kit_ty no, _, rfl, ?_⟩
      refine iteT (iteT ?_)
      rw [textOf_oth nos] at q
      exact q _ (Same.refl _)
    | str x hx =>
      refine ⟨_, rfl, _, _, _, _, true, rfl, .ty "str", .base (.str x), kit_ty (by decide +kernel), _, rfl, ?_⟩
      refine iteF ?_
      have e1 : textOf (.str x) cs n = (decide ((1 : Int) ≤ (x.length : Int)) && decide ((x.length : Int) ≤ n) && allIn cs x) := rfl
      refine ⟨_, rfl, _, rfl, hx, 1, _, rfl, rfl, _, rfl, ?_⟩
      refine ite2 (fun c1 => ?_) (fun c1 => ?_)
      · refine ⟨_, rfl, _, _, rfl, rfl, _, rfl, ?_⟩
        cases c2 : decide ((x.length : Int) ≤ n) with
        | false =>
          refine iteT ?_
          rw [c2, Bool.and_false, Bool.false_and] at e1
          rw [e1] at q
          exact q _ (Same.refl _)
        | true =>
          refine iteF ?_
          rw [c1, c2, Bool.true_and, Bool.true_and] at e1
          refine ⟨_, rfl, x, rfl, fun D hD => ?_⟩
          refine lc_it (walk_str (z := x)) (fun i H' => Same H H' ∧ H' D = some (.lst (((x.cps.toList.take i).map fun c => decide (c ∈ cs.cps.toList)).map V.bl)))
            ⟨same_upd hD, upd_same⟩ (fun _ _ _ _ => trivial) ?_ ?_
          · rintro i y H1 H2 hi ⟨sm, hL⟩ ⟨rfl, c, hc, rfl⟩
            refine ⟨rfl, ?_⟩
            dsimp only [tYes]
            refine iteT ?_
            refine ⟨_, rfl, _, rfl, c, cs, rfl, rfl, _, hL, ?_, same_upd2 sm hD, ?_⟩
            · rw [List.length_map, List.length_map, List.length_take]
              refine Nat.lt_of_le_of_lt (Nat.min_le_left _ _) (Nat.lt_of_lt_of_le hi ?_)
              exact hx
            · have hc' : x.cps.toList[i]? = some c := by rw [Array.getElem?_toList]; exact hc
              rw [upd_same, take_succ_all hc', List.map_append]
              rfl
          · rintro H1 ⟨sm, hL⟩
            refine ⟨D, _, rfl, SqL.of hL, ?_⟩
            have e2 : ((x.cps.toList.take x.cps.size).map fun c => decide (c ∈ cs.cps.toList)).all id = allIn cs x := by
              rw [List.take_of_length_le (by rw [Array.length_toList]; exact Nat.le_refl _), List.all_map]
              rfl
            rw [e1] at q
            show Q (.bl (((x.cps.toList.take x.cps.size).map fun c => decide (c ∈ cs.cps.toList)).all id)) H1
            rw [e2]
            exact q _ sm
      · refine ⟨_, rfl, ?_⟩
        refine iteT ?_
        have c1' : decide ((1 : Int) ≤ (x.length : Int)) = false := by
          cases z : decide ((1 : Int) ≤ (x.length : Int)) with
          | false => rfl
          | true => exact absurd z c1
        rw [c1', Bool.false_and, Bool.false_and] at e1
        rw [e1] at q
        exact q _ (Same.refl _)
structure TxtC (mg : Str → Option Value) : Prop where
  lt : ∃ t, mg "LETTERS" = some (.str LET t)
  ln : ∃ t, mg "LONGEST_NAME" = some (.int 8 t)
def spHost (K : PySem.W.Frag) : Sp := fun vs H Q _ => ∃ v : V, vs = [v] ∧ Kd K H v ∧ ∀ H', Same H H' → Q (.bl (textOf v LET 8)) H'
theorem ok_host {f : Addr} {fd : FuncData} (F : Fun K "is_host_name" "is_host_name" s_is_host_name f fd) (C : TxtC mg) (G_is_text_of : Fk P w K mg base CX0 1 "is_text_of" ["value", "characters", "longest"] (spText K)) :
    FnOk P w K mg base CX0 2 f fd ["value"] (spHost K) := by
  obtain ⟨t1, e1⟩ := C.lt
  obtain ⟨t2, e2⟩ := C.ln
  refine F.ok sc_is_host_name (fun vs H Q E h => ?_) (fun cdv A outer s H vs Q E hr h => ?_)
  · obtain ⟨v, rfl, _⟩ := h
    rfl
  · obtain ⟨v, rfl, kd, q⟩ := h
    refine ⟨_, (pss_one (ps_ret (pe_callF G_is_text_of (hr.mono (by decide)) (by rfl) pass0 (pa_cons (pv 0) (pa_cons (pe_glob (v := .str LET) (by rfl) e1 ⟨_, rfl⟩) (pa_cons (pe_glob (v := .int 8) (by rfl) e2 ⟨_, rfl⟩) pa_nil)))))), ?_⟩
    exact ⟨v, rfl, v, LET, 8, rfl, kd, q⟩
end
end My

namespace My
open PySem PySem.Spec PyProof.Rows L2 Gy Xl Xs Xt
/-! ### what a relink is, over data -/
mutual
/-- few and short parts -/
def sml : PyData → Bool
  | .str x => decide (x.length ≤ 12)
  | .int i => decide (i.natAbs < 1000)
  | .list ds => decide (ds.length ≤ 14) && smls ds
  | .tuple ds => decide (ds.length ≤ 14) && smls ds
  | .dict kvs => kvs.isEmpty
  | .none => true
  | .bool _ => true
def smls : List PyData → Bool
  | [] => true
  | d :: ds => sml d && smls ds
end
theorem smls_mem : ∀ {ds : List PyData} {d : PyData}, smls ds = true → d ∈ ds → sml d = true
  | e :: ds, d, h, m => by
    have h2 : sml e = true ∧ smls ds = true := by simpa only [smls, Bool.and_eq_true] using h
    rcases List.mem_cons.mp m with rfl | m
    · exact h2.1
    · exact smls_mem h2.2 m
def isHost : PyData → Bool
  | .str x => decide ((1 : Int) ≤ (x.length : Int)) && decide ((x.length : Int) ≤ 8) && allIn LET x
  | _ => false
def txts : List PyData → List Str
  | [] => []
  | .str x :: ds => x :: txts ds
  | _ :: ds => txts ds
def isPath : PyData → Bool
  | .tuple ds => decide (3 ≤ ds.length) && (ds.all isHost && decide ((txts ds).Nodup))
  | _ => false
/-- a whole number from 0 on, below another -/
def isIdx (n : Int) : PyData → Bool
  | .int i => decide (0 ≤ i) && decide (i < n)
  | _ => false
theorem isPath_t (ds : List PyData) : isPath (.tuple ds) = (decide (3 ≤ ds.length) && (ds.all isHost && decide ((txts ds).Nodup))) := rfl
theorem isIdx_i (n i : Int) : isIdx n (.int i) = (decide (0 ≤ i) && decide (i < n)) := rfl
def isRel : PyData → Bool
  | .tuple [.tuple ds, c] => isPath (.tuple ds) && isIdx ((ds.length : Int) - 1) c
  | _ => false
theorem txts_all : ∀ {ds : List PyData}, ds.all isHost = true → ds = (txts ds).map PyData.str
  | [], _ => rfl
  | d :: ds, h => by
    have h2 : isHost d = true ∧ ds.all isHost = true := by simpa only [List.all_cons, Bool.and_eq_true] using h
    cases d with
    | str x =>
      show PyData.str x :: ds = PyData.str x :: (txts ds).map PyData.str
      rw [← txts_all h2.2]
    | _ => cases h2.1
section
variable {P : Program} {w : World} {K : PySem.W.Frag} {mg : Str → Option Value} {base : Heap} {H : Hp}
theorem Dns.len : ∀ {vs : List V} {ds : List PyData}, Dns K H vs ds → vs.length = ds.length
  | _, _, .nil => rfl
  | _, _, .cons h t => by rw [List.length_cons, List.length_cons, Dns.len t]
theorem Dns.get : ∀ {vs : List V} {ds : List PyData}, Dns K H vs ds → ∀ {i : Nat} {v : V}, vs[i]? = some v → ∃ d, ds[i]? = some d ∧ Dn K H v d
  | _, _, .nil, i, v, e => by simp at e
  | _, _, .cons h t, 0, v, e => by
    simp at e
    subst e
    exact ⟨_, rfl, h⟩
  | _, _, .cons h t, i + 1, v, e => by
    simp only [List.getElem?_cons_succ] at e ⊢
    exact Dns.get t e
theorem Dns.txts : ∀ {vs : List V} {xs : List Str}, Dns K H vs (xs.map PyData.str) → vs = xs.map V.str
  | _, [], .nil => rfl
  | _, x :: xs, .cons h t => by
    cases h
    rw [Dns.txts t]
    rfl
theorem kd_dn {v : V} {d : PyData} (h : Dn K H v d) (s : sml d = true) : Kd K H v := by
  cases h with
  | non => exact .oth (.base .non) (by decide +kernel) (fun x z => nomatch z)
  | bl b => exact .oth (.base (.bl b)) (by decide +kernel) (fun x z => nomatch z)
  | int i => exact .oth (.base (.int i)) (by decide +kernel) (fun x z => nomatch z)
  | str x =>
    have : x.length ≤ 12 := by simpa only [sml, decide_eq_true_eq] using s
    exact .str x (le200 (by omega))
  | lst e _ => exact .oth (.base (.lst e)) (by decide +kernel) (fun x z => nomatch z)
  | tup e _ => exact .oth e.ty (by decide +kernel) (fun x z => nomatch z)
  | dic e => exact .oth (.base (.dK e)) (by decide +kernel) (fun x z => nomatch z)
theorem host_dn {v : V} {d : PyData} (h : Dn K H v d) : textOf v LET 8 = isHost d := by
  cases h <;> rfl
/-- the kind of a value, and whether it is a tuple -/
theorem tup_or {v : V} {d : PyData} (h : Dn K H v d) : (∃ a xs ds, v = .ref a ∧ d = .tuple ds ∧ Tz H a xs ∧ Dns K H xs ds) ∨ ((∀ ds, d ≠ .tuple ds) ∧ ∃ t, TyX K H v (.type t) ∧ kitB t "tuple" = some false) := by
  cases h with
  | non => exact .inr ⟨(fun _ z => nomatch z), _, .base .non, by decide +kernel⟩
  | bl b => exact .inr ⟨(fun _ z => nomatch z), _, .base (.bl b), by decide +kernel⟩
  | int i => exact .inr ⟨(fun _ z => nomatch z), _, .base (.int i), by decide +kernel⟩
  | str x => exact .inr ⟨(fun _ z => nomatch z), _, .base (.str x), by decide +kernel⟩
  | lst e _ => exact .inr ⟨(fun _ z => nomatch z), _, .base (.lst e), by decide +kernel⟩
  | tup e t => exact .inl ⟨_, _, _, rfl, rfl, e, t⟩
  | dic e => exact .inr ⟨(fun _ z => nomatch z), _, .base (.dK e), by decide +kernel⟩
/-- whether it is a whole number, or True, False -/
theorem int_or {v : V} {d : PyData} (h : Dn K H v d) : (∃ i, v = .int i ∧ d = .int i) ∨ (∃ b, v = .bl b ∧ d = .bool b) ∨ ((∀ i, d ≠ .int i) ∧ ∃ t, TyX K H v (.type t) ∧ kitB t "int" = some false) := by
  cases h with
  | non => exact .inr (.inr ⟨(fun _ z => nomatch z), _, .base .non, by decide +kernel⟩)
  | bl b => exact .inr (.inl ⟨b, rfl, rfl⟩)
  | int i => exact .inl ⟨i, rfl, rfl⟩
  | str x => exact .inr (.inr ⟨(fun _ z => nomatch z), _, .base (.str x), by decide +kernel⟩)
  | lst e _ => exact .inr (.inr ⟨(fun _ z => nomatch z), _, .base (.lst e), by decide +kernel⟩)
  | tup e _ => exact .inr (.inr ⟨(fun _ z => nomatch z), _, e.ty, by decide +kernel⟩)
  | dic e => exact .inr (.inr ⟨(fun _ z => nomatch z), _, .base (.dK e), by decide +kernel⟩)
def spPath (K : PySem.W.Frag) : Sp := fun vs H Q _ => ∃ (v : V) (d : PyData), vs = [v] ∧ Dn K H v d ∧ sml d = true ∧ ∀ H', Same H H' → Q (.bl (isPath d)) H'
theorem ok_path {f : Addr} {fd : FuncData} (F : Fun K "is_relink_path" "is_relink_path" s_is_relink_path f fd) (Y : Bn mg) (sp : ∃ t, mg "SHORTEST_PATH" = some (.int 3 t))
    (G_is_host_name : Fk P w K mg base CX0 2 "is_host_name" ["value"] (spHost K)) : FnOk P w K mg base CX0 3 f fd ["value"] (spPath K) := by
  obtain ⟨t1, e1⟩ := sp
  refine F.ok sc_is_relink_path (fun vs H Q E h => ?_) (fun cdv A outer s H vs Q E hr h => ?_)
  · obtain ⟨v, d, rfl, _⟩ := h
    rfl
  · obtain ⟨v, d, rfl, dn, sm, q⟩ := h
    refine ⟨_, (pss_cons (ps_if (PW.pt (pw_or (pt_not (pt_val (pe_callB call_isi (by rfl) Y.isinstance (by decide +kernel) (pa_cons (pv 0) (pa_cons (pe_bltn (v := .ty "tuple") (by rfl) Y.tuple (by decide +kernel) rfl) pa_nil))))) (pw_or1 (pt_cmpR op_lt (pe_callB call_len_seq (by rfl) Y.len PySem.boot_len (pa_cons (pv 0) pa_nil)) (pe_glob (v := .int 3) (by rfl) e1 ⟨_, rfl⟩) (nomark _)))))
 (pss_one (ps_ret pe_bl))
 pss_nil)
 (pss_one (ps_ret (pe_and (pe_callB (cr_all rfl) (by rfl) Y.all (by decide +kernel) (pa_cons (pe_lc (own := [("host", 1)]) (g := gName 1) (tt := tYes) rfl sc_is_relink_path.nd (pi_tup (pv 0)) (blkOk_by (N := ["value", "host"]) (sc := defScope s_is_relink_path) (by decide +kernel)) (fun _ _ _ _ _ => (pg_name (i := 1) sc_is_relink_path.nd rfl (Or.inl rfl))) (fun _ _ _ _ _ => pts_nil) (fun _ _ _ _ _ => (pe_callF G_is_host_name (hr.mono (by decide)) (by rfl) pass0 (pa_cons (pv 1) pa_nil)))) pa_nil)) (pe_one (pe_cmpR op_eq (pe_lenTexts (by rfl) Y.len (by rfl) Y.set (pv 0)) (pe_callB call_len_seq (by rfl) Y.len PySem.boot_len (pa_cons (pv 0) pa_nil)) (nomark _))))))), ?_⟩
    rcases tup_or dn with ⟨a, xs, ds, rfl, rfl, ha, hd⟩ | ⟨no, t, ty, kt⟩
    · have sm2 : ds.length ≤ 14 ∧ smls ds = true := by simpa only [sml, Bool.and_eq_true, decide_eq_true_eq] using sm
      have el := Dns.len hd
      refine ⟨_, rfl, _, _, _, _, true, rfl, .ty "tuple", ha.ty, kit_ty (by decide +kernel), _, rfl, iteF ?_⟩
      refine ⟨_, rfl, a, _, rfl, .inr (ha.sq), _, 3, rfl, rfl, _, rfl, ite2 (fun c => ?_) (fun c => ?_)⟩
      · have c' := of_decide_eq_true c
        have z : isPath (.tuple ds) = false := by
          rw [isPath_t]
          rw [decide_eq_false (show ¬ 3 ≤ ds.length by omega), Bool.false_and]
        rw [z] at q
        exact q _ (Same.refl _)
      · have c' : ¬ (xs.length : Int) < 3 := fun z => c (decide_eq_true z)
        refine ⟨_, rfl, a, rfl, ⟨_, ha.sq⟩, fun D hD => ?_⟩
        refine lc_it (walk_tup (K := K) (a := a) (xs := xs)) (fun i H' => Same H H' ∧ H' D = some (.lst (((ds.take i).map isHost).map V.bl))) ⟨same_upd hD, upd_same⟩ (fun i H' _ h => (ha.same h.1).sq) ?_ ?_
        · rintro i y H1 H2 hi ⟨s1, hL⟩ ⟨rfl, hy⟩
          obtain ⟨di, hdi, dni⟩ := Dns.get hd hy
          refine ⟨rfl, ?_⟩
          dsimp only [tYes]
          refine iteT ?_
          refine ⟨_, rfl, y, rfl, kd_dn (dni.same s1) (smls_mem sm2.2 (List.mem_of_getElem? hdi)), fun H3 s3 => ?_⟩
          refine ⟨_, s3 _ _ hL, ?_, same_upd2 (s1.trans s3) hD, ?_⟩
          · rw [List.length_map, List.length_map, List.length_take]
            exact small200 (by omega)
          · rw [upd_same, host_dn dni, List.take_add_one, hdi, List.map_append, List.map_append]
            rfl
        · rintro H1 ⟨s1, hL⟩
          rw [el, List.take_of_length_le (Nat.le_refl _)] at hL
          refine ⟨D, _, rfl, SqL.of hL, _, rfl, ite2 (fun c1 => ?_) (fun c1 => ?_)⟩
          · rw [List.all_map] at c1
            have c2 : ds.all isHost = true := c1
            have e := txts_all c2
            have ha1 := ha.same s1
            have ex : xs = (txts ds).map V.str := by
              rw [e] at hd
              exact Dns.txts hd
            have el2 : xs.length = (txts ds).length := by rw [ex, List.length_map]
            refine ⟨_, rfl, a, txts ds, rfl, (by rw [← ex]; exact ha1.sq), (by omega), _, rfl, a, _, rfl, .inr (ha1.sq), rfl, ?_⟩
            have z : isPath (.tuple ds) = decide (V.int ((numd (txts ds) (txts ds).length : Nat) : Int) = V.int (xs.length : Int)) := by
              rw [isPath_t]
              rw [c2, decide_eq_true (show 3 ≤ ds.length by omega), Bool.true_and, Bool.true_and]
              congr 1
              have nf := numd_full (txts ds) (txts ds).length (Nat.le_refl _)
              rw [List.take_of_length_le (Nat.le_refl _)] at nf
              rw [← nf, eq_iff_iff, el2]
              refine ⟨fun z => by rw [z], fun z => ?_⟩
              injection z with z
              omega
            rw [← z]
            exact q _ s1
          · rw [List.all_map] at c1
            have c2 : ds.all isHost = false := Bool.eq_false_iff.mpr c1
            have z : isPath (.tuple ds) = false := by
              rw [isPath_t]
              rw [c2, Bool.false_and, Bool.and_false]
            rw [z] at q
            exact q _ s1
    · refine ⟨v, rfl, v, _, _, _, false, rfl, .ty "tuple", ty, kit_ty kt, _, rfl, ?_⟩
      refine iteT (iteT ?_)
      have z : isPath d = false := by
        cases d with
        | tuple ds => exact absurd rfl (no ds)
        | _ => rfl
      rw [z] at q
      exact q _ (Same.refl _)
/-! ### whole numbers, the cut -/
/-- a whole number from another on -/
def isFrom (n : Int) : PyData → Bool
  | .int i => decide (n ≤ i)
  | _ => false
def spFrom (K : PySem.W.Frag) : Sp := fun vs H Q _ => ∃ (v : V) (n : Int) (d : PyData), vs = [v, .int n] ∧ Dn K H v d ∧ Q (.bl (isFrom n d)) H
theorem ok_from {f : Addr} {fd : FuncData} (F : Fun K "is_integer_from" "is_integer_from" s_is_integer_from f fd) (Y : Bn mg) : FnOk P w K mg base CX0 1 f fd ["value", "least"] (spFrom K) := by
  refine F.ok sc_is_integer_from (fun vs H Q E h => ?_) (fun cdv A outer s H vs Q E hr h => ?_)
  · obtain ⟨v, n, d, rfl, _⟩ := h
    rfl
  · obtain ⟨v, n, d, rfl, dn, q⟩ := h
    refine ⟨_, (pss_one (ps_ret (pe_and (pe_callB call_isi (by rfl) Y.isinstance (by decide +kernel) (pa_cons (pv 0) (pa_cons (pe_bltn (v := .ty "int") (by rfl) Y.int (by decide +kernel) rfl) pa_nil))) (pe_and (pe_not (pe_callB call_isi (by rfl) Y.isinstance (by decide +kernel) (pa_cons (pv 0) (pa_cons (pe_bltn (v := .ty "bool") (by rfl) Y.bool (by decide +kernel) rfl) pa_nil)))) (pe_one (pe_cmpR op_ge (pv 0) (pv 1) (nomark _))))))), ?_⟩
    rcases int_or dn with ⟨i, rfl, rfl⟩ | ⟨b, rfl, rfl⟩ | ⟨no, t, ty, kt⟩
    · refine ⟨_, rfl, _, _, _, _, true, rfl, .ty "int", .base (.int i), kit_ty (by decide +kernel), _, rfl, iteT ?_⟩
      refine ⟨_, rfl, _, _, _, _, false, rfl, .ty "bool", .base (.int i), kit_ty (by decide +kernel), _, rfl, _, rfl, iteT ?_⟩
      exact ⟨_, rfl, _, rfl, _, _, rfl, rfl, q⟩
    · refine ⟨_, rfl, _, _, _, _, true, rfl, .ty "int", .base (.bl b), kit_ty (by decide +kernel), _, rfl, iteT ?_⟩
      refine ⟨_, rfl, _, _, _, _, true, rfl, .ty "bool", .base (.bl b), kit_ty (by decide +kernel), _, rfl, _, rfl, iteF ?_⟩
      exact q
    · refine ⟨v, rfl, v, _, _, _, false, rfl, .ty "int", ty, kit_ty kt, _, rfl, iteF ?_⟩
      have z : isFrom n d = false := by
        cases d with
        | int i => exact absurd rfl (no i)
        | _ => rfl
      rw [z] at q
      exact q
def spIdx (K : PySem.W.Frag) : Sp := fun vs H Q _ => ∃ (v : V) (n : Int) (d : PyData), vs = [v, .int n] ∧ Dn K H v d ∧ Q (.bl (isIdx n d)) H
theorem ok_idx {f : Addr} {fd : FuncData} (F : Fun K "is_index" "is_index" s_is_index f fd) (G_is_integer_from : Fk P w K mg base CX0 1 "is_integer_from" ["value", "least"] (spFrom K)) : FnOk P w K mg base CX0 2 f fd ["value", "size"] (spIdx K) := by
  refine F.ok sc_is_index (fun vs H Q E h => ?_) (fun cdv A outer s H vs Q E hr h => ?_)
  · obtain ⟨v, n, d, rfl, _⟩ := h
    rfl
  · obtain ⟨v, n, d, rfl, dn, q⟩ := h
    refine ⟨_, (pss_one (ps_ret (pe_and (pe_callF G_is_integer_from (hr.mono (by decide)) (by rfl) pass0 (pa_cons (pv 0) (pa_cons pe_int pa_nil))) (pe_one (pe_cmpR op_lt (pv 0) (pv 1) (nomark _)))))), ?_⟩
    refine ⟨_, rfl, v, 0, d, rfl, dn, _, rfl, ite2 (fun c => ?_) (fun c => ?_)⟩
    · cases d with
      | int i =>
        cases dn
        refine ⟨_, rfl, _, rfl, _, _, rfl, rfl, ?_⟩
        have z : isIdx n (.int i) = decide (i < n) := by
          rw [isIdx_i]
          have c' : decide ((0 : Int) ≤ i) = true := c
          rw [c', Bool.true_and]
        rw [z] at q
        exact q
      | _ => cases c
    · have z : isIdx n d = false := by
        cases d with
        | int i =>
          rw [isIdx_i]
          have c' : decide ((0 : Int) ≤ i) = false := Bool.eq_false_iff.mpr c
          rw [c', Bool.false_and]
        | _ => rfl
      rw [z] at q
      exact q
def spCut (K : PySem.W.Frag) : Sp := fun vs H Q _ => ∃ (a : Addr) (xs : List V) (v : V) (d : PyData), vs = [.ref a, v] ∧ Tz H a xs ∧ Dn K H v d ∧ Q (.bl (isIdx ((xs.length : Int) - 1) d)) H
theorem ok_cut {f : Addr} {fd : FuncData} (F : Fun K "is_cut_of" "is_cut_of" s_is_cut_of f fd) (Y : Bn mg) (G_is_index : Fk P w K mg base CX0 2 "is_index" ["value", "size"] (spIdx K)) : FnOk P w K mg base CX0 3 f fd ["path", "value"] (spCut K) := by
  refine F.ok sc_is_cut_of (fun vs H Q E h => ?_) (fun cdv A outer s H vs Q E hr h => ?_)
  · obtain ⟨a, xs, v, d, rfl, _⟩ := h
    rfl
  · obtain ⟨a, xs, v, d, rfl, ha, dn, q⟩ := h
    refine ⟨_, (pss_one (ps_ret (pe_callF G_is_index (hr.mono (by decide)) (by rfl) pass0 (pa_cons (pv 1) (pa_cons (pe_op op_sub (pe_callB call_len_seq (by rfl) Y.len PySem.boot_len (pa_cons (pv 0) pa_nil)) pe_int) pa_nil))))), ?_⟩
    exact ⟨_, rfl, _, rfl, a, _, rfl, .inr ha.sq, _, _, rfl, rfl, v, _, d, rfl, dn, q⟩
/-! ### is_relink -/
def spRel (K : PySem.W.Frag) : Sp := fun vs H Q _ => ∃ (v : V) (d : PyData), vs = [v] ∧ Dn K H v d ∧ sml d = true ∧ ∀ H', Same H H' → Q (.bl (isRel d)) H'
theorem isRel_2 (p c : PyData) : isRel (.tuple [p, c]) = (isPath p && (match p with | .tuple ds => isIdx ((ds.length : Int) - 1) c | _ => false)) := by
  cases p <;> rfl
theorem isRel_n {ds : List PyData} (h : ds.length ≠ 2) : isRel (.tuple ds) = false := by
  match ds, h with
  | [], _ => rfl
  | [p], _ => cases p <;> rfl
  | p :: c :: e :: ds, _ => cases p <;> rfl
  | [p, c], h => exact absurd rfl h
theorem ok_rel {f : Addr} {fd : FuncData} (F : Fun K "is_relink" "is_relink" s_is_relink f fd) (Y : Bn mg) (G_is_relink_path : Fk P w K mg base CX0 3 "is_relink_path" ["value"] (spPath K)) (G_is_cut_of : Fk P w K mg base CX0 3 "is_cut_of" ["path", "value"] (spCut K)) :
    FnOk P w K mg base CX0 4 f fd ["value"] (spRel K) := by
  refine F.ok sc_is_relink (fun vs H Q E h => ?_) (fun cdv A outer s H vs Q E hr h => ?_)
  · obtain ⟨v, d, rfl, _⟩ := h
    rfl
  · obtain ⟨v, d, rfl, dn, sm, q⟩ := h
    refine ⟨_, (pss_cons (ps_if (PW.pt (pw_or (pt_not (pt_val (pe_callB call_isi (by rfl) Y.isinstance (by decide +kernel) (pa_cons (pv 0) (pa_cons (pe_bltn (v := .ty "tuple") (by rfl) Y.tuple (by decide +kernel) rfl) pa_nil))))) (pw_or1 (pt_cmpR op_ne (pe_callB call_len_seq (by rfl) Y.len PySem.boot_len (pa_cons (pv 0) pa_nil)) pe_int (nomark _)))))
 (pss_one (ps_ret pe_bl))
 pss_nil)
 (pss_cons (ps_asg (pv 0) (pg_tup (by rfl) (pgs_cons (pg_name (i := 1) sc_is_relink.nd rfl (Or.inl rfl)) (pgs_cons (pg_name (i := 2) sc_is_relink.nd rfl (Or.inl rfl)) pgs_nil))))
 (pss_one (ps_ret (pe_and (pe_callF G_is_relink_path (hr.mono (by decide)) (by rfl) pass0 (pa_cons (pv 1) pa_nil)) (pe_one (pe_callF G_is_cut_of (hr.mono (by decide)) (by rfl) pass0 (pa_cons (pv 1) (pa_cons (pv 2) pa_nil))))))))), ?_⟩
    rcases tup_or dn with ⟨a, xs, ds, rfl, rfl, ha, hd⟩ | ⟨no, t, ty, kt⟩
    · have sm2 : ds.length ≤ 14 ∧ smls ds = true := by simpa only [sml, Bool.and_eq_true, decide_eq_true_eq] using sm
      have el := Dns.len hd
      refine ⟨_, rfl, _, _, _, _, true, rfl, .ty "tuple", ha.ty, kit_ty (by decide +kernel), _, rfl, iteF ?_⟩
      refine ⟨_, rfl, a, _, rfl, .inr (ha.sq), rfl, _, rfl, ite2 (fun c => ?_) (fun c => ?_)⟩
      · have c' : ds.length ≠ 2 := fun z => by
          rw [decide_eq_true (show V.int (xs.length : Int) = V.int 2 by rw [el, z]; rfl)] at c
          cases c
        rw [isRel_n c'] at q
        exact q _ (Same.refl _)
      · have c' : xs.length = 2 := by
          have z : V.int (xs.length : Int) = V.int 2 := Decidable.of_not_not fun z => c (by rw [decide_eq_false z]; rfl)
          injection z with z
          omega
        obtain ⟨p, c0, rfl⟩ : ∃ p c0, xs = [p, c0] := by
          match xs, c' with
          | [p, c0], _ => exact ⟨p, c0, rfl⟩
        cases hd with
        | @cons _ _ dp _ h1 hd =>
        cases hd with
        | @cons _ _ dc _ h2 hd =>
          cases hd
          have m1 : sml dp = true := smls_mem sm2.2 List.mem_cons_self
          rw [isRel_2] at q
          refine ⟨_, rfl, a, _, rfl, ha.sq, rfl, _, _, rfl, _, _, rfl, rfl, ?_⟩
          refine ⟨_, rfl, p, dp, rfl, h1, m1, fun H1 s1 => ⟨_, rfl, ite2 (fun c1 => ?_) (fun c1 => ?_)⟩⟩
          · rw [c1, Bool.true_and] at q
            rcases tup_or h1 with ⟨b, ys, es, rfl, rfl, hb, hes⟩ | ⟨no, _⟩
            · have el2 := Dns.len hes
              refine ⟨_, rfl, _, rfl, b, ys, c0, dc, rfl, hb.same s1, h2.same s1, ?_⟩
              rw [el2]
              exact q _ s1
            · cases dp with
              | tuple es => exact absurd rfl (no es)
              | _ => cases c1
          · rw [Bool.eq_false_iff.mpr c1, Bool.false_and] at q
            exact q _ s1
    · refine ⟨v, rfl, v, _, _, _, false, rfl, .ty "tuple", ty, kit_ty kt, _, rfl, ?_⟩
      refine iteT (iteT ?_)
      have z : isRel d = false := by
        cases d with
        | tuple ds => exact absurd rfl (no ds)
        | _ => rfl
      rw [z] at q
      exact q _ (Same.refl _)
end
end My

namespace My
open PySem PySem.Spec PyProof.Rows L2 Gy Xl Xs Xt
/-- a class of errors with one field: raised -/
structure Rz (P : Program) (w : World) (K : PySem.W.Frag) (mg : Str → Option Value) (base : Heap) (nm f : Str) (C : Addr) : Prop where
  gm : mg nm = some (.ref C)
  ty : PySem.W.typeIn K (.ref C) = some (.type "type")
  ex : ∃ (fI : Addr) (fd : FuncData), XIn K C fI ∧ FnOk P w K mg base CX0 1 fI fd ["self", f] (spI1 C f) ∧ XB K fd ["self", f] [] (fun us _ => us) (fun vs _ => vs)
/-- what is wanted where C(v) is raised -/
def Ro (E : XK) (C : Addr) (f : Str) (v : V) (H : Hp) : Prop := ∀ H' dx, Same H H' → H' dx = some (.xd [(f, v)]) → E (.ref C) (some dx) H'
theorem Ro.same {E : XK} {C : Addr} {f : Str} {v : V} {H H1 : Hp} (h : Ro E C f v H) (s : Same H H1) : Ro E C f v H1 := fun H' dx s1 e => h H' dx (s.trans s1) e
/-- the data of a relink -/
def reld (xs : List Str) (c : Nat) : PyData := .tuple [.tuple (xs.map PyData.str), .int (c : Int)]
theorem rel_parts {d : PyData} (h : isRel d = true) : ∃ (xs : List Str) (c : Nat), d = reld xs c ∧ 3 ≤ xs.length ∧ xs.Nodup ∧ c + 2 ≤ xs.length ∧ (xs.map PyData.str).all isHost = true := by
  match d, h with
  | .tuple [.tuple ds, c], h =>
    have h2 : isPath (.tuple ds) = true ∧ isIdx ((ds.length : Int) - 1) c = true := by simpa only [isRel, Bool.and_eq_true] using h
    have h3 := h2.1
    rw [isPath_t, Bool.and_eq_true, Bool.and_eq_true, decide_eq_true_eq, decide_eq_true_eq] at h3
    obtain ⟨l3, ah, nd⟩ := h3
    have e := txts_all ah
    have el : ds.length = (txts ds).length := by
      have := congrArg List.length e
      rw [List.length_map] at this
      exact this
    match c, h2.2 with
    | .int i, hc =>
      rw [isIdx_i, Bool.and_eq_true, decide_eq_true_eq, decide_eq_true_eq] at hc
      obtain ⟨j, rfl⟩ := Int.eq_ofNat_of_zero_le hc.1
      refine ⟨txts ds, j, ?_, by omega, nd, by omega, by rw [← e]; exact ah⟩
      unfold reld
      rw [← e]
section
variable {P : Program} {w : World} {K : PySem.W.Frag} {mg : Str → Option Value} {base : Heap} {H : Hp}
theorem rel_heap {v : V} {xs : List Str} {c : Nat} (h : Dn K H v (reld xs c)) : ∃ a b, v = .ref a ∧ Tz H a [.ref b, .int (c : Int)] ∧ Tz H b (xs.map V.str) := by
  cases h with
  | tup ha hs =>
    cases hs with
    | cons h1 h2 =>
      cases h2 with
      | cons h2 h3 =>
        cases h3
        cases h1 with
        | tup hb hx =>
          cases h2
          have e := Dns.txts hx
          subst e
          exact ⟨_, _, rfl, ha, hb⟩
theorem at_nat {xs : List Str} {i : Nat} (h : i < xs.length) : atI (xs.map V.str) (i : Int) = some (.str (xs.getD i "")) := by
  refine atI_nat ?_
  rw [List.getElem?_map, List.getD_eq_getElem?_getD, List.getElem?_eq_getElem h]
  rfl
theorem at_end {xs : List Str} (h : 0 < xs.length) : atI (xs.map V.str) (-1) = some (.str (xs.getD (xs.length - 1) "")) := by
  have ne : xs ≠ [] := fun z => by rw [z] at h; cases h
  have e := List.dropLast_concat_getLast ne
  have g : xs.getD (xs.length - 1) "" = xs.getLast ne := by
    rw [List.getD_eq_getElem?_getD, List.getElem?_eq_getElem (by omega), List.getLast_eq_getElem]
    rfl
  rw [g]
  conv => lhs; rw [← e]
  rw [List.map_append]
  exact atI_last _ _
def spChk (K : PySem.W.Frag) (C : Addr) : Sp := fun vs H Q E => ∃ (v : V) (d : PyData), vs = [v] ∧ Dn K H v d ∧ sml d = true ∧ (isRel d = true → ∀ H', Same H H' → Q .non H') ∧ (isRel d = false → Ro E C "value" v H)
theorem ok_chk {f C : Addr} {fd : FuncData} (F : Fun K "check_relink" "check_relink" s_check_relink f fd) (R : Rz P w K mg base "InvalidRelink" "value" C)
    (G_is_relink : Fk P w K mg base CX0 4 "is_relink" ["value"] (spRel K)) : FnOk P w K mg base (L2.CX P w) 5 f fd ["value"] (spChk K C) := by
  obtain ⟨fI, fdI, XI, GI, bI⟩ := R.ex
  refine F.okX sc_check_relink (fun vs H Q E h => ?_) (fun cdv A outer s H vs Q E hr h => ?_)
  · obtain ⟨v, d, rfl, _⟩ := h
    rfl
  · obtain ⟨v, d, rfl, dn, sm, q1, q2⟩ := h
    refine ⟨_, (pss_one (ps_if (pt_not (pt_val (pe_callF G_is_relink (hr.mono (by decide)) (by rfl) pass0 (pa_cons (pv 0) pa_nil))))
 (pss_one (ps_raise1 rfl (takes_of rfl rfl rfl rfl) XI R.ty GI (hr.mono (by decide)) bI (by rfl) R.gm (pa_cons (pv 0) pa_nil)))
 pss_nil)), ?_⟩
    refine ⟨_, rfl, v, d, rfl, dn, sm, fun H1 s1 => ⟨_, rfl, ?_⟩⟩
    cases c : isRel d with
    | true => exact iteF (q1 c _ s1)
    | false =>
      refine iteT ⟨_, rfl, v, rfl, fun dx nd => ?_⟩
      exact q2 c _ dx (s1.trans (same_upd nd)) upd_same
/-! ### the place of a host -/
def posn (xs : List Str) : PyData → Option Nat
  | .str x => if x ∈ xs then some (xs.idxOf x) else none
  | _ => none
/-- a query of a relink and a host -/
def spQh (K : PySem.W.Frag) (C U : Addr) (g : Nat → Nat → V) : Sp := fun vs H Q E => ∃ (v h : V) (d e : PyData), vs = [v, h] ∧ Dn K H v d ∧ sml d = true ∧ Dn K H h e ∧ sml e = true ∧ (isRel d = false → Ro E C "value" v H) ∧
  ∀ xs c, d = reld xs c → isRel d = true → (∀ j, posn xs e = some j → ∀ H', Same H H' → Q (g j c) H') ∧ (posn xs e = none → Ro E U "host" h H)
theorem ok_pos {f C U : Addr} {fd : FuncData} (F : Fun K "position" "position" s_position f fd) (R : Rz P w K mg base "UnknownHost" "host" U) (G_check_relink : Fk P w K mg base (L2.CX P w) 5 "check_relink" ["value"] (spChk K C))
    (G_is_host_name : Fk P w K mg base CX0 2 "is_host_name" ["value"] (spHost K)) : FnOk P w K mg base (L2.CX P w) 6 f fd ["relink", "host"] (spQh K C U fun j _ => .int (j : Int)) := by
  obtain ⟨fI, fdI, XI, GI, bI⟩ := R.ex
  refine F.okX sc_position (fun vs H Q E h => ?_) (fun cdv A outer s H vs Q E hr h => ?_)
  · obtain ⟨v, h, d, e, rfl, _⟩ := h
    rfl
  · obtain ⟨v, h, d, e, rfl, dn, sm, dh, sh, q2, q1⟩ := h
    refine ⟨_, (pss_cons (ps_expr (pe_callF G_check_relink (hr.mono (by decide)) (by rfl) (passes_call (E := E) (takes_of rfl rfl rfl rfl) (fun _ _ _ _ h => h)) (pa_cons (pv 0) pa_nil)))
 (pss_cons (ps_set (i := 2) sc_position.nd rfl (.inl rfl) (pe_ix ix_tup (pv 0) pe_int (fun _ _ => rfl)))
 (pss_cons (ps_if (PW.pt (pw_or (pt_not (pt_val (pe_callF G_is_host_name (hr.mono (by decide)) (by rfl) pass0 (pa_cons (pv 1) pa_nil)))) (pw_or1 (pt_cmpR op_notIn_seq (pv 1) (pv 2) rfl))))
 (pss_one (ps_raise1 rfl (takes_of rfl rfl rfl rfl) XI R.ty GI (hr.mono (by decide)) bI (by rfl) R.gm (pa_cons (pv 1) pa_nil)))
 pss_nil)
 (pss_one (ps_ret (pe_tm PySem.F.slot_tuple_index PySem.F.type_tuple_index mt_tup_index (pv 2) (pa_cons (pv 1) pa_nil))))))), ?_⟩
    refine ⟨_, rfl, v, d, rfl, dn, sm, fun c H1 s1 => ?_, q2⟩
    obtain ⟨xs, k, rfl, l3, nd, kl, ah⟩ := rel_parts c
    obtain ⟨a, b, rfl, ha, hb⟩ := rel_heap dn
    have ha1 := ha.same s1
    obtain ⟨q3, q4⟩ := q1 xs k rfl c
    refine ⟨_, rfl, a, _, 0, .ref b, rfl, rfl, ha1.sq, atI_nat (j := 0) rfl, ?_⟩
    refine ⟨_, rfl, h, rfl, kd_dn (dh.same s1) sh, fun H2 s2 => ?_⟩
    have s02 := s1.trans s2
    have hb2 := hb.same s02
    rw [host_dn dh]
    refine ⟨_, rfl, ?_⟩
    cases ce : isHost e with
    | false =>
      refine iteT (iteT ⟨_, rfl, h, rfl, fun dx nx => ?_⟩)
      have no : posn xs e = none := by
        cases e with
        | str x =>
          refine if_neg fun m => ?_
          rw [List.all_eq_true] at ah
          rw [ah _ (List.mem_map_of_mem m)] at ce
          cases ce
        | _ => rfl
      exact q4 no _ dx (s02.trans (same_upd nx)) upd_same
    | true =>
      refine iteF ?_
      cases dh with
      | str x =>
        refine ⟨_, rfl, _, rfl, b, _, rfl, .inr (hb2.sq), rfl, flat_strs xs, _, rfl, ite2 (fun c9 => ?_) (fun c9 => ?_)⟩
        · have c9' : (!inV (.str x) (xs.map V.str)) = true := c9
          rw [inV_strs] at c9'
          have no : posn xs (.str x) = none := if_neg fun m => by
            rw [decide_eq_true m] at c9'
            cases c9'
          exact ⟨_, rfl, _, rfl, fun dx nx => q4 no _ dx (s02.trans (same_upd nx)) upd_same⟩
        · have c9' : ¬ (!inV (.str x) (xs.map V.str)) = true := c9
          rw [inV_strs] at c9'
          have m : x ∈ xs := by
            cases z : decide (x ∈ xs) with
            | true => exact of_decide_eq_true z
            | false => exact absurd (by rw [z]; rfl) c9'
          have lt := List.idxOf_lt_length_of_mem m
          refine ⟨_, rfl, ⟨b, _, rfl, hb2⟩, _, rfl, b, xs, x, xs.idxOf x, rfl, rfl, hb2.sq, ?_, ?_, q3 _ (if_pos m) _ s02⟩
          · rw [List.getElem?_eq_getElem lt, List.getElem_idxOf]
          · intro j lj ej
            have lj2 : j < xs.length := Nat.lt_trans lj lt
            rw [List.getElem?_eq_getElem lj2] at ej
            injection ej with ej
            refine absurd (ej.trans (List.getElem_idxOf lt).symm) (List.pairwise_iff_getElem.mp nd j _ lj2 lt lj)
      | _ => cases ce
end
end My

namespace My
open PySem PySem.Spec PyProof.Rows L2 Gy Xl Xs Xt
/-! ### texts or None, cuts of a path, drawn relinks -/
def optV : Option Str → V
  | none => .non
  | some s => .str s
/-- the text at a place, counted from the end -/
def fromEnd (xs : List Str) (n : Nat) : Str := xs.getD (xs.length - n) ""
theorem inV_non : ∀ xs : List Str, inV .non (xs.map V.str) = false
  | [] => rfl
  | x :: xs => by
    have ih := inV_non xs
    unfold inV at ih ⊢
    rw [List.map_cons, List.any_cons, ih]
    rfl
theorem flat_opt (src : Option Str) : flatV (optV src) = true := by
  cases src <;> rfl
/-- the one text at a place, or none -/
def one (xs : List Str) (m n : Nat) : List Str := (xs.drop m).take (n - m)
theorem cut_one (xs : List Str) (m n : Nat) (hm : m ≤ xs.length) : cutV (xs.map V.str) (some (m : Int)) (some (n : Int)) = (one xs m n).map V.str := by
  unfold cutV one
  rw [HT.sIx_nat, HT.sIx_nat, List.length_map, Nat.min_eq_left hm, ← List.map_drop, ← List.map_take]
  congr 1
  by_cases h : n ≤ xs.length
  · rw [Nat.min_eq_left h]
  · rw [Nat.min_eq_right (by omega), List.take_of_length_le (by rw [List.length_drop]; omega), List.take_of_length_le (by rw [List.length_drop]; omega)]
theorem one_at {xs : List Str} {m : Nat} (h : m < xs.length) : one xs m (m + 1) = [xs.getD m ""] := by
  unfold one
  rw [show m + 1 - m = 1 by omega, List.drop_eq_getElem_cons h, List.take_succ_cons, List.take_zero, List.getD_eq_getElem?_getD, List.getElem?_eq_getElem h]
  rfl
theorem one_out {xs : List Str} {m n : Nat} (h : xs.length ≤ m) : one xs m n = [] := by
  unfold one
  rw [List.drop_eq_nil_of_le h, List.take_nil]
theorem one_nil {xs : List Str} {m : Nat} : one xs m m = [] := by
  unfold one
  rw [Nat.sub_self]
  rfl
theorem one_len (xs : List Str) (m : Nat) : (one xs m (m + 1)).length ≤ 1 := by
  unfold one
  rw [List.length_take]
  omega
theorem one_sub {xs : List Str} {m n : Nat} {y : Str} (h : y ∈ one xs m n) : y ∈ xs := List.mem_of_mem_drop (List.mem_of_mem_take h)
theorem scal_opt (y : Str) (src : Option Str) : scal (.str y) (optV src) = true := by
  cases src <;> rfl
theorem _root_.Xt.Tz.but {H H' : Hp} {a r : Addr} {xs : List V} (h : Tz H a xs) (R : Rng H r) (b : But r H H') : Tz H' a xs := by
  obtain ⟨o, e, c⟩ := h
  refine ⟨o, b a _ (fun z => ?_) e, c⟩
  obtain ⟨x, y, e2, _⟩ := R
  rw [z, e2] at e
  cases e
theorem _root_.Xt.Tz.updL {H : Hp} {a D : Addr} {xs l : List V} {o : HO} (h : Tz H a xs) (hD : H D = some (.lst l)) : Tz (upd H D o) a xs := by
  obtain ⟨ob, e, c⟩ := h
  refine ⟨ob, ?_, c⟩
  rw [upd_ne (fun z => by rw [z, hD] at e; cases e)]
  exact e
theorem cut2 (xs : List Str) (h : 2 ≤ xs.length) : cutV (xs.map V.str) (some 2) none = (xs.drop 2).map V.str ∧ cutV (xs.map V.str) none (some 2) = (xs.take 2).map V.str := by
  have e : HT.sIx (xs.map V.str).length 0 (some 2) = 2 := by
    rw [show (some 2 : Option Int) = some ((2 : Nat) : Int) from rfl, HT.sIx_nat, List.length_map]
    omega
  have e2 : HT.sIx (xs.map V.str).length (xs.map V.str).length (some 2) = 2 := by
    rw [show (some 2 : Option Int) = some ((2 : Nat) : Int) from rfl, HT.sIx_nat, List.length_map]
    omega
  constructor
  · unfold cutV
    rw [e, HT.sIx_none, List.take_of_length_le (by rw [List.length_drop]; exact Nat.le_refl _), List.map_drop]
  · unfold cutV
    rw [e2, HT.sIx_none, List.drop_zero, Nat.sub_zero, List.map_take]
def spLaw (K : PySem.W.Frag) : Sp := fun vs H Q _ => ∃ (a : Addr) (ns : List Int), vs = [.ref a] ∧ SqL K H a (ns.map V.int) ∧ ns.length ≤ 63 ∧ ∀ H', Q (.bl true) H'
theorem at_end2 {xs : List Str} (h : 2 ≤ xs.length) : atI (xs.map V.str) (-2) = some (.str (fromEnd xs 2)) := by
  have l : (xs.map V.str).length = xs.length := List.length_map ..
  have e : ixN (xs.map V.str).length (-2) = some (xs.length - 2) := by
    unfold ixN
    rw [if_neg (by omega), if_pos (by omega), l]
    congr 1
    omega
  show (ixN (xs.map V.str).length (-2)).bind (fun j => (xs.map V.str)[j]?) = _
  rw [e]
  show (xs.map V.str)[xs.length - 2]? = _
  unfold fromEnd
  rw [List.getD_eq_getElem?_getD, List.getElem?_map, List.getElem?_eq_getElem (by omega)]
  rfl
theorem strs_inj : ∀ {a b : List Str}, a.map PyData.str = b.map PyData.str → a = b
  | [], [], _ => rfl
  | [], y :: b, h => nomatch h
  | x :: a, [], h => nomatch h
  | x :: a, y :: b, h => by
    rw [List.map_cons, List.map_cons] at h
    injection h with h1 h2
    injection h1 with h1
    rw [h1, strs_inj h2]
theorem reld_inj {xs ys : List Str} {c d : Nat} (h : reld xs c = reld ys d) : xs = ys ∧ c = d := by
  unfold reld at h
  injection h with e1
  injection e1 with e1 e2
  injection e1 with e1
  injection e2 with e2
  injection e2 with e2
  exact ⟨strs_inj e1, by omega⟩
theorem txts_map : ∀ xs : List Str, txts (xs.map PyData.str) = xs
  | [] => rfl
  | x :: xs => by
    show x :: txts (xs.map PyData.str) = _
    rw [txts_map xs]
theorem host_of {x : Str} (h : Nm x) : isHost (.str x) = true := by
  obtain ⟨h1, h2, h3⟩ := h
  show (decide ((1 : Int) ≤ (x.length : Int)) && decide ((x.length : Int) ≤ 8) && allIn LET x) = true
  rw [decide_eq_true (show (1 : Int) ≤ (x.length : Int) by omega), decide_eq_true (show (x.length : Int) ≤ 8 by omega)]
  unfold allIn
  rw [Bool.true_and, Bool.true_and, List.all_eq_true]
  exact fun c hc => decide_eq_true (h3 c hc)
/-- a drawn relink is one -/
theorem rel_of {xs : List Str} {c : Nat} (nm : ∀ x ∈ xs, Nm x) (nd : xs.Nodup) (l3 : 3 ≤ xs.length) (cl : c + 2 ≤ xs.length) : isRel (reld xs c) = true := by
  show (isPath (.tuple (xs.map PyData.str)) && isIdx (((xs.map PyData.str).length : Int) - 1) (.int (c : Int))) = true
  rw [isPath_t, isIdx_i, txts_map, List.length_map, decide_eq_true l3, decide_eq_true nd, decide_eq_true (show (0 : Int) ≤ (c : Int) by omega), decide_eq_true (show (c : Int) < (xs.length : Int) - 1 by omega)]
  have e : (xs.map PyData.str).all isHost = true := by
    rw [List.all_eq_true]
    intro d hd
    obtain ⟨x, hx, rfl⟩ := List.mem_map.mp hd
    exact host_of (nm x hx)
  rw [e]
  rfl
theorem smls_strs : ∀ {xs : List Str}, (∀ x ∈ xs, Nm x) → smls (xs.map PyData.str) = true
  | [], _ => rfl
  | x :: xs, h => by
    show (decide (x.length ≤ 12) && smls (xs.map PyData.str)) = true
    have := (h x List.mem_cons_self).2.1
    rw [smls_strs fun y hy => h y (List.mem_cons_of_mem _ hy), decide_eq_true (show x.length ≤ 12 by omega)]
    rfl
theorem sml_reld {xs : List Str} {c : Nat} (nm : ∀ x ∈ xs, Nm x) (l14 : xs.length ≤ 14) (cl : c + 2 ≤ xs.length) : sml (reld xs c) = true := by
  show (decide (2 ≤ 14) && ((decide ((xs.map PyData.str).length ≤ 14) && smls (xs.map PyData.str)) && (decide ((c : Int).natAbs < 1000) && true))) = true
  rw [smls_strs nm, List.length_map, decide_eq_true l14, decide_eq_true (show (c : Int).natAbs < 1000 by omega)]
  rfl
theorem dns_strs {K : PySem.W.Frag} {H : Hp} : ∀ xs : List Str, Dns K H (xs.map V.str) (xs.map PyData.str)
  | [] => .nil
  | x :: xs => .cons (.str x) (dns_strs xs)
theorem dn_reld {K : PySem.W.Frag} {H : Hp} {a b : Addr} {xs : List Str} {c : Nat} (ha : Tz H a [.ref b, .int (c : Int)]) (hb : Tz H b (xs.map V.str)) : Dn K H (.ref a) (reld xs c) :=
  .tup ha (.cons (.tup hb (dns_strs xs)) (.cons (.int _) .nil))
theorem getD_mem {xs : List Str} {j : Nat} (h : j < xs.length) : xs.getD j "" ∈ xs := by
  rw [List.getD_eq_getElem?_getD, List.getElem?_eq_getElem h]
  exact List.getElem_mem h
theorem posn_at {xs : List Str} {j : Nat} (nd : xs.Nodup) (h : j < xs.length) : posn xs (.str (xs.getD j "")) = some j := by
  show (if xs.getD j "" ∈ xs then some (xs.idxOf (xs.getD j "")) else none) = some j
  rw [if_pos (getD_mem h), List.getD_eq_getElem?_getD, List.getElem?_eq_getElem h]
  show some (xs.idxOf xs[j]) = some j
  rw [nd.idxOf_getElem j h]
theorem posn_lt {xs : List Str} {e : PyData} {j : Nat} (h : posn xs e = some j) : j < xs.length := by
  cases e with
  | str x =>
    have h' : (if x ∈ xs then some (xs.idxOf x) else none) = some j := h
    by_cases m : x ∈ xs
    · rw [if_pos m] at h'
      cases h'
      exact List.idxOf_lt_length_of_mem m
    · rw [if_neg m] at h'
      cases h'
  | _ => cases h
end My

namespace My
open PySem PySem.Spec PyProof.Rows L2 Gy Xl Xs Xt
def Fits (d : PyData) : Prop := d.showable = true ∧ d.depth ≤ 60 ∧ d.shown.length ≤ sizeLine
end My

namespace My
open PySem PySem.Spec PyProof.Rows L2 Gy Xl Xs Xt
structure Dr (H : Hp) (ra pa : Addr) (xs : List Str) (c : Nat) : Prop where
  ra : Tz H ra [.ref pa, .int (c : Int)]
  pa : Tz H pa (xs.map V.str)
  l3 : 3 ≤ xs.length
  cl : c + 2 ≤ xs.length
  nm : ∀ x ∈ xs, Nm x
  nd : xs.Nodup
theorem Dr.same {H H' : Hp} {ra pa : Addr} {xs : List Str} {c : Nat} (h : Dr H ra pa xs c) (s : Same H H') : Dr H' ra pa xs c := ⟨h.ra.same s, h.pa.same s, h.l3, h.cl, h.nm, h.nd⟩
theorem Dr.but {H H' : Hp} {ra pa r : Addr} {xs : List Str} {c : Nat} (h : Dr H ra pa xs c) (R : Rng H r) (b : But r H H') : Dr H' ra pa xs c := ⟨h.ra.but R b, h.pa.but R b, h.l3, h.cl, h.nm, h.nd⟩
end My

namespace My
open PySem PySem.Spec PyProof.Rows L2 Gy Xl Xs Xt
/-! ### what is shown of few and short parts: short, and of signs only -/
theorem so_iff {x : Str} : PyData.strOk x = true ↔ ∀ c ∈ x.cps.toList, c < 0x110000 := by
  unfold PyData.strOk
  rw [← Array.all_toList, List.all_eq_true]
  exact ⟨fun h c hc => of_decide_eq_true (h c hc), fun h c hc => decide_eq_true (h c hc)⟩
theorem so_app {x y : Str} (h1 : PyData.strOk x = true) (h2 : PyData.strOk y = true) : PyData.strOk (x ++ y) = true := by
  rw [so_iff] at *
  intro c hc
  have e : (x ++ y).cps.toList = x.cps.toList ++ y.cps.toList := by
    show (x.cps ++ y.cps).toList = _
    rw [Array.toList_append]
  rw [e, List.mem_append] at hc
  rcases hc with hc | hc
  · exact h1 c hc
  · exact h2 c hc
theorem chr_lt (c : Char) : c.toNat < 0x110000 := by
  have h := c.valid
  rcases h with h | h
  · show c.val.toNat < _
    have : c.val.toNat < 0xd800 := h
    omega
  · exact h.2
theorem so_lit (s : String) : PyData.strOk (Str.ofString s) = true := by
  rw [so_iff, Str.ofString_eq_toList]
  intro c hc
  have hc' : c ∈ s.toList.map Char.toNat := hc
  obtain ⟨d, _, rfl⟩ := List.mem_map.mp hc'
  exact chr_lt d
theorem so_join {sep : Str} (hs : PyData.strOk sep = true) : ∀ {ts : List Str}, (∀ t ∈ ts, PyData.strOk t = true) → PyData.strOk (Str.join sep ts) = true
  | [], _ => by
    rw [so_iff]
    intro c hc
    exact nomatch hc
  | [x], h => h x List.mem_cons_self
  | x :: y :: ts, h => by
    show PyData.strOk (x ++ sep ++ Str.join sep (y :: ts)) = true
    exact so_app (so_app (h x List.mem_cons_self) hs) (so_join hs fun t ht => h t (List.mem_cons_of_mem _ ht))
theorem so_char {q c : Nat} (hq : q < 0x110000) (hc : c < 0x110000) : ∀ d ∈ PySem.Builtin.Str.reprChar q c, d < 0x110000 := by
  have hx : ∀ w : Nat, ∀ d ∈ List.replicate (w - ((Nat.toDigits 16 c).map Char.toNat).length) 48 ++ (Nat.toDigits 16 c).map Char.toNat, d < 0x110000 := by
    intro w d hd
    rcases List.mem_append.mp hd with hd | hd
    · rw [(List.mem_replicate.mp hd).2]
      decide
    · obtain ⟨e, _, rfl⟩ := List.mem_map.mp hd
      exact chr_lt e
  intro d hd
  unfold PySem.Builtin.Str.reprChar at hd
  dsimp only at hd
  split at hd
  · simp only [List.mem_cons, List.not_mem_nil, or_false] at hd
    rcases hd with rfl | rfl
    · decide
    · exact hc
  split at hd
  · simp only [List.mem_cons, List.not_mem_nil, or_false] at hd
    rcases hd with rfl | rfl <;> decide
  split at hd
  · simp only [List.mem_cons, List.not_mem_nil, or_false] at hd
    rcases hd with rfl | rfl <;> decide
  split at hd
  · simp only [List.mem_cons, List.not_mem_nil, or_false] at hd
    rcases hd with rfl | rfl <;> decide
  split at hd
  · rw [List.mem_singleton.mp hd]
    exact hc
  split at hd
  · rcases List.mem_append.mp hd with hd | hd
    · simp only [List.mem_cons, List.not_mem_nil, or_false] at hd
      rcases hd with rfl | rfl <;> decide
    · exact hx 2 d hd
  split at hd
  · rcases List.mem_append.mp hd with hd | hd
    · simp only [List.mem_cons, List.not_mem_nil, or_false] at hd
      rcases hd with rfl | rfl <;> decide
    · exact hx 4 d hd
  · rcases List.mem_append.mp hd with hd | hd
    · simp only [List.mem_cons, List.not_mem_nil, or_false] at hd
      rcases hd with rfl | rfl <;> decide
    · exact hx 8 d hd
theorem so_fold {q : Nat} (hq : q < 0x110000) : ∀ (l : List Nat) (a : Array Nat), (∀ c ∈ l, c < 0x110000) → (∀ c ∈ a.toList, c < 0x110000) → ∀ c ∈ (l.foldl (fun out c => out ++ (PySem.Builtin.Str.reprChar q c).toArray) a).toList, c < 0x110000
  | [], a, _, ha => ha
  | x :: l, a, hl, ha => by
    rw [List.foldl_cons]
    refine so_fold hq l _ (fun c hc => hl c (List.mem_cons_of_mem _ hc)) fun c hc => ?_
    rw [Array.toList_append, List.mem_append] at hc
    rcases hc with hc | hc
    · exact ha c hc
    · exact so_char hq (hl x List.mem_cons_self) c hc
theorem so_repr {x : Str} (h : PyData.strOk x = true) : PyData.strOk (reprText x) = true := by
  have hq : reprQuote x < 0x110000 := by
    unfold reprQuote
    split <;> decide
  rw [so_iff] at *
  intro c hc
  unfold reprText at hc
  rw [Array.toList_push, List.mem_append] at hc
  rcases hc with hc | hc
  · rw [← Array.foldl_toList] at hc
    exact so_fold hq _ _ h (fun d hd => by rw [List.mem_singleton.mp hd]; exact hq) c hc
  · rw [List.mem_singleton.mp hc]
    exact hq
mutual
/-- few and short parts, of signs only -/
def tam : PyData → Bool
  | .str x => decide (x.length ≤ 12) && PyData.strOk x
  | .int i => decide (i.natAbs < 1000)
  | .list ds => decide (ds.length ≤ 14) && tams ds
  | .tuple ds => decide (ds.length ≤ 14) && tams ds
  | .dict kvs => kvs.isEmpty
  | .none => true
  | .bool _ => true
def tams : List PyData → Bool
  | [] => true
  | d :: ds => tam d && tams ds
end
mutual
theorem tam.sml : ∀ {d : PyData}, tam d = true → My.sml d = true
  | .str x, h => by
    have h' : x.length ≤ 12 ∧ PyData.strOk x = true := by simpa only [tam, Bool.and_eq_true, decide_eq_true_eq] using h
    exact decide_eq_true h'.1
  | .int i, h => h
  | .list ds, h => by
    have h' : ds.length ≤ 14 ∧ tams ds = true := by simpa only [tam, Bool.and_eq_true, decide_eq_true_eq] using h
    show (decide (ds.length ≤ 14) && smls ds) = true
    rw [decide_eq_true h'.1, tams.smls h'.2]
    rfl
  | .tuple ds, h => by
    have h' : ds.length ≤ 14 ∧ tams ds = true := by simpa only [tam, Bool.and_eq_true, decide_eq_true_eq] using h
    show (decide (ds.length ≤ 14) && smls ds) = true
    rw [decide_eq_true h'.1, tams.smls h'.2]
    rfl
  | .dict kvs, h => h
  | .none, _ => rfl
  | .bool _, _ => rfl
theorem tams.smls : ∀ {ds : List PyData}, tams ds = true → My.smls ds = true
  | [], _ => rfl
  | d :: ds, h => by
    have h' : tam d = true ∧ tams ds = true := by simpa only [tams, Bool.and_eq_true] using h
    show (My.sml d && My.smls ds) = true
    rw [tam.sml h'.1, tams.smls h'.2]
    rfl
end
mutual
theorem tam.so : ∀ {d : PyData}, tam d = true → PyData.strOk d.shown = true
  | .str x, h => by
    have h' : x.length ≤ 12 ∧ PyData.strOk x = true := by simpa only [tam, Bool.and_eq_true, decide_eq_true_eq] using h
    simp only [PyData.shown]
    exact so_repr h'.2
  | .int i, h => by
    simp only [PyData.shown]
    exact so_lit _
  | .list ds, h => by
    have h' : ds.length ≤ 14 ∧ tams ds = true := by simpa only [tam, Bool.and_eq_true, decide_eq_true_eq] using h
    simp only [PyData.shown]
    rw [listText_eq_join]
    exact so_app (so_app (so_lit _) (so_join (so_lit _) (tams.so h'.2))) (so_lit _)
  | .tuple ds, h => by
    have h' : ds.length ≤ 14 ∧ tams ds = true := by simpa only [tam, Bool.and_eq_true, decide_eq_true_eq] using h
    simp only [PyData.shown]
    unfold tupleText
    exact so_app (so_app (so_lit _) (so_join (so_lit _) (tams.so h'.2))) (so_lit _)
  | .dict kvs, h => by
    have h' : kvs = [] := List.isEmpty_iff.mp h
    subst h'
    decide +kernel
  | .none, _ => by decide +kernel
  | .bool b, _ => by cases b <;> decide +kernel
theorem tams.so : ∀ {ds : List PyData}, tams ds = true → ∀ t ∈ PyData.shownAll ds, PyData.strOk t = true
  | [], _ => fun t ht => by simp only [PyData.shownAll] at ht; cases ht
  | d :: ds, h => by
    have h' : tam d = true ∧ tams ds = true := by simpa only [tams, Bool.and_eq_true] using h
    intro t ht
    simp only [PyData.shownAll] at ht
    rcases List.mem_cons.mp ht with rfl | ht
    · exact tam.so h'.1
    · exact tams.so h'.2 t ht
end
theorem nat_fit : ∀ n : Nat, n < 1000 → (PyData.shown (.int (n : Int))).length ≤ 13 ∧ (PyData.shown (.int (-(n : Int)))).length ≤ 13 := by
  have z : ∀ n : Fin 1000, (PyData.shown (.int (n.val : Int))).length ≤ 13 ∧ (PyData.shown (.int (-(n.val : Int)))).length ≤ 13 := by decide +kernel
  exact fun n h => z ⟨n, h⟩
theorem int_fit {i : Int} (h : i.natAbs < 1000) : PyData.showable (.int i) = true ∧ PyData.leavesShort 13 (.int i) = true ∧ PyData.weight (.int i) ≤ 12 := by
  have lg : i.natAbs.log2 < 10 := by
    by_cases z : i.natAbs = 0
    · rw [z]
      decide
    · exact (Nat.log2_lt z).mpr (by omega)
  refine ⟨?_, ?_, ?_⟩
  · show decide (i.natAbs.log2 < 1920) = true
    exact decide_eq_true (by omega)
  · show decide ((PyData.shown (.int i)).length ≤ 13) = true
    refine decide_eq_true ?_
    obtain ⟨a, b⟩ := nat_fit i.natAbs h
    rcases Int.natAbs_eq i with e | e
    · rw [e]
      exact a
    · rw [e]
      exact b
  · show (if (i == 0) = true then 0 else i.natAbs.log2 + 1) ≤ 12
    split <;> omega
/-- how heavy it is, by its depth -/
def bnd : Nat → Nat
  | 0 => 12
  | n + 1 => 14 * (bnd n + 1)
theorem bnd_mono : ∀ {m n : Nat}, m ≤ n → bnd m ≤ bnd n
  | 0, 0, _ => Nat.le_refl _
  | 0, n + 1, _ => by
    have := bnd_mono (m := 0) (n := n) (Nat.zero_le _)
    show _ ≤ 14 * (bnd n + 1)
    omega
  | m + 1, n + 1, h => by
    have := bnd_mono (m := m) (n := n) (by omega)
    show 14 * (bnd m + 1) ≤ 14 * (bnd n + 1)
    omega
mutual
theorem tam.parts : ∀ {d : PyData}, tam d = true → d.showable = true ∧ d.leavesShort 13 = true ∧ d.weight ≤ bnd d.depth
  | .str x, h => by
    have h' : x.length ≤ 12 ∧ PyData.strOk x = true := by simpa only [tam, Bool.and_eq_true, decide_eq_true_eq] using h
    refine ⟨rfl, List.all_eq_true.mpr fun c hc => decide_eq_true ?_, h'.1⟩
    have := so_iff.mp h'.2 c hc
    have e : (16 : Nat) ^ 8 = 4294967296 := by decide
    omega
  | .int i, h => int_fit (of_decide_eq_true h)
  | .list ds, h => by
    have h' : ds.length ≤ 14 ∧ tams ds = true := by simpa only [tam, Bool.and_eq_true, decide_eq_true_eq] using h
    obtain ⟨a, b, c⟩ := tams.parts h'.2 (Nat.le_refl _)
    refine ⟨a, b, Nat.le_trans c ?_⟩
    show _ ≤ 14 * (bnd (PyData.depthAll ds) + 1)
    exact Nat.mul_le_mul_right _ h'.1
  | .tuple ds, h => by
    have h' : ds.length ≤ 14 ∧ tams ds = true := by simpa only [tam, Bool.and_eq_true, decide_eq_true_eq] using h
    obtain ⟨a, b, c⟩ := tams.parts h'.2 (Nat.le_refl _)
    refine ⟨a, b, Nat.le_trans c ?_⟩
    show _ ≤ 14 * (bnd (PyData.depthAll ds) + 1)
    exact Nat.mul_le_mul_right _ h'.1
  | .dict kvs, h => by
    have h' : kvs = [] := List.isEmpty_iff.mp h
    subst h'
    exact ⟨rfl, rfl, Nat.zero_le _⟩
  | .none, _ => ⟨rfl, rfl, Nat.zero_le _⟩
  | .bool b, _ => ⟨rfl, rfl, Nat.zero_le _⟩
theorem tams.parts : ∀ {ds : List PyData} {n : Nat}, tams ds = true → PyData.depthAll ds ≤ n → PyData.showableAll ds = true ∧ PyData.leavesShortAll 13 ds = true ∧ PyData.weightAll ds ≤ ds.length * (bnd n + 1)
  | [], _, _, _ => ⟨rfl, rfl, Nat.zero_le _⟩
  | d :: ds, n, h, hn => by
    have h' : tam d = true ∧ tams ds = true := by simpa only [tams, Bool.and_eq_true] using h
    have hn' : max d.depth (PyData.depthAll ds) ≤ n := hn
    obtain ⟨a1, b1, c1⟩ := tam.parts h'.1
    obtain ⟨a2, b2, c2⟩ := tams.parts h'.2 (n := n) (by omega)
    have m := bnd_mono (m := d.depth) (n := n) (by omega)
    refine ⟨?_, ?_, ?_⟩
    · show (d.showable && PyData.showableAll ds) = true
      rw [a1, a2]
      rfl
    · show (d.leavesShort 13 && PyData.leavesShortAll 13 ds) = true
      rw [b1, b2]
      rfl
    · show d.weight + 1 + PyData.weightAll ds ≤ (ds.length + 1) * (bnd n + 1)
      rw [Nat.add_mul, Nat.one_mul]
      omega
end
theorem tam.fits {d : PyData} (h : tam d = true) (hd : d.depth ≤ 4) : Fits d := by
  obtain ⟨a, b, c⟩ := tam.parts h
  refine ⟨a, by omega, PyData.shown_fits (B := 13) (by decide) (by decide) b (Nat.le_trans c (Nat.le_trans (bnd_mono hd) (by decide)))⟩
theorem tam_nm {x : Str} (h : Nm x) : tam (.str x) = true := by
  show (decide (x.length ≤ 12) && PyData.strOk x) = true
  rw [nm_ok h, decide_eq_true (by have := h.2.1; omega)]
  rfl
theorem tams_strs : ∀ {xs : List Str}, (∀ x ∈ xs, Nm x) → tams (xs.map PyData.str) = true
  | [], _ => rfl
  | x :: xs, h => by
    show (tam (.str x) && tams (xs.map PyData.str)) = true
    rw [tam_nm (h x List.mem_cons_self), tams_strs fun y hy => h y (List.mem_cons_of_mem _ hy)]
    rfl
end My

namespace My
open PySem PySem.Spec PyProof.Rows L2 Gy Xl Xs Xt
/-! ### links of a relink, near hosts, independent relinks -/
/-- two hosts as a link -/
def lnk (x y : Str) : List Str := if decide (x.cps.toList < y.cps.toList) = true then [x, y] else [y, x]
section
variable {P : Program} {w : World} {K : PySem.W.Frag} {mg : Str → Option Value} {base : Heap} {H : Hp}
def spLnk : Sp := fun vs H Q _ => ∃ x y : Str, vs = [.str x, .str y] ∧ NewT ((lnk x y).map V.str) H Q
theorem ok_lnk {f : Addr} {fd : FuncData} (F : Fun K "link_between" "link_between" s_link_between f fd) : FnOk P w K mg base CX0 1 f fd ["one", "other"] spLnk := by
  refine F.ok sc_link_between (fun vs H Q E h => ?_) (fun cdv A outer s H vs Q E hr h => ?_)
  · obtain ⟨x, y, rfl, _⟩ := h
    rfl
  · obtain ⟨x, y, rfl, q⟩ := h
    refine ⟨_, (pss_one (ps_ret (pe_ifExp (pt_cmpR op_lt_str (pv 0) (pv 1) (nomark _)) (pe_tupZ (pa_cons (pv 0) (pa_cons (pv 1) pa_nil))) (pe_tupZ (pa_cons (pv 1) (pa_cons (pv 0) pa_nil)))))), ?_⟩
    refine ⟨_, rfl, _, rfl, x, y, rfl, rfl, _, rfl, ite2 (fun c => ?_) (fun c => ?_)⟩
    · refine ⟨_, rfl, _, rfl, (by show 2 ≤ sizeLine; decide), ?_⟩
      unfold lnk at q
      rw [if_pos c] at q
      exact q
    · refine ⟨_, rfl, _, rfl, (by show 2 ≤ sizeLine; decide), ?_⟩
      unfold lnk at q
      rw [if_neg c] at q
      exact q
/-- a query of a relink that returns a link -/
def spQl (K : PySem.W.Frag) (C : Addr) (g : List Str → Nat → List Str) : Sp := fun vs H Q E => ∃ (v : V) (d : PyData), vs = [v] ∧ Dn K H v d ∧ sml d = true ∧
  (∀ xs c, d = reld xs c → isRel d = true → ∀ H' t, Same H H' → Tz H' t ((g xs c).map V.str) → Q (.ref t) H') ∧ (isRel d = false → Ro E C "value" v H)
def gAdd (xs : List Str) (_ : Nat) : List Str := lnk (xs.getD 0 "") (xs.getD (xs.length - 1) "")
def gRem (xs : List Str) (c : Nat) : List Str := lnk (xs.getD c "") (xs.getD (c + 1) "")
theorem ok_add {f C : Addr} {fd : FuncData} (F : Fun K "added_link" "added_link" s_added_link f fd) (G_check_relink : Fk P w K mg base (L2.CX P w) 5 "check_relink" ["value"] (spChk K C)) (G_link_between : Fk P w K mg base CX0 1 "link_between" ["one", "other"] spLnk) :
    FnOk P w K mg base (L2.CX P w) 6 f fd ["relink"] (spQl K C gAdd) := by
  refine F.okX sc_added_link (fun vs H Q E h => ?_) (fun cdv A outer s H vs Q E hr h => ?_)
  · obtain ⟨v, d, rfl, _⟩ := h
    rfl
  · obtain ⟨v, d, rfl, dn, sm, q1, q2⟩ := h
    refine ⟨_, (pss_cons (ps_expr (pe_callF G_check_relink (hr.mono (by decide)) (by rfl) (passes_call (E := E) (takes_of rfl rfl rfl rfl) (fun _ _ _ _ h => h)) (pa_cons (pv 0) pa_nil)))
 (pss_cons (ps_set (i := 1) sc_added_link.nd rfl (.inl rfl) (pe_ix ix_tup (pv 0) pe_int (fun _ _ => rfl)))
 (pss_one (ps_ret (pe_callF G_link_between (hr.mono (by decide)) (by rfl) pass0 (pa_cons (pe_ix ix_tup (pv 1) pe_int (fun _ _ => rfl)) (pa_cons (pe_ix ix_tup (pv 1) (pe_un un_neg pe_int) (fun _ _ => rfl)) pa_nil))))))), ?_⟩
    refine ⟨_, rfl, v, d, rfl, dn, sm, fun c H1 s1 => ?_, q2⟩
    obtain ⟨xs, k, rfl, l3, nd, kl, _⟩ := rel_parts c
    obtain ⟨a, b, rfl, ha, hb⟩ := rel_heap dn
    have ha1 := ha.same s1
    have hb1 := hb.same s1
    refine ⟨_, rfl, a, _, 0, .ref b, rfl, rfl, ha1.sq, atI_nat (j := 0) rfl, ?_⟩
    refine ⟨_, rfl, b, _, 0, _, rfl, rfl, hb1.sq, at_nat (i := 0) (by omega), _, rfl, 1, rfl, b, _, -1, _, rfl, rfl, hb1.sq, at_end (by omega), _, _, rfl, fun t o nt st tz => ?_⟩
    exact q1 xs k rfl c _ t (s1.trans st) tz
theorem ok_rem {f C : Addr} {fd : FuncData} (F : Fun K "removed_link" "removed_link" s_removed_link f fd) (G_check_relink : Fk P w K mg base (L2.CX P w) 5 "check_relink" ["value"] (spChk K C)) (G_link_between : Fk P w K mg base CX0 1 "link_between" ["one", "other"] spLnk) :
    FnOk P w K mg base (L2.CX P w) 6 f fd ["relink"] (spQl K C gRem) := by
  refine F.okX sc_removed_link (fun vs H Q E h => ?_) (fun cdv A outer s H vs Q E hr h => ?_)
  · obtain ⟨v, d, rfl, _⟩ := h
    rfl
  · obtain ⟨v, d, rfl, dn, sm, q1, q2⟩ := h
    refine ⟨_, (pss_cons (ps_expr (pe_callF G_check_relink (hr.mono (by decide)) (by rfl) (passes_call (E := E) (takes_of rfl rfl rfl rfl) (fun _ _ _ _ h => h)) (pa_cons (pv 0) pa_nil)))
 (pss_cons (ps_asg (pv 0) (pg_tup (by rfl) (pgs_cons (pg_name (i := 1) sc_removed_link.nd rfl (Or.inl rfl)) (pgs_cons (pg_name (i := 2) sc_removed_link.nd rfl (Or.inl rfl)) pgs_nil))))
 (pss_one (ps_ret (pe_callF G_link_between (hr.mono (by decide)) (by rfl) pass0 (pa_cons (pe_ix ix_tup (pv 1) (pv 2) (fun _ _ => rfl)) (pa_cons (pe_ix ix_tup (pv 1) (pe_op op_add (pv 2) pe_int) (fun _ _ => rfl)) pa_nil))))))), ?_⟩
    refine ⟨_, rfl, v, d, rfl, dn, sm, fun c H1 s1 => ?_, q2⟩
    obtain ⟨xs, k, rfl, l3, nd, kl, _⟩ := rel_parts c
    obtain ⟨a, b, rfl, ha, hb⟩ := rel_heap dn
    have ha1 := ha.same s1
    have hb1 := hb.same s1
    refine ⟨_, rfl, a, _, rfl, ha1.sq, rfl, _, _, rfl, _, _, rfl, rfl, ?_⟩
    refine ⟨_, rfl, _, rfl, b, _, _, _, rfl, rfl, hb1.sq, at_nat (i := k) (by omega), _, rfl, _, rfl, _, _, rfl, rfl, b, _, _, _, rfl, rfl, hb1.sq, at_nat (i := k + 1) (by omega), _, _, rfl, fun t o nt st tz => ?_⟩
    exact q1 xs k rfl c _ t (s1.trans st) tz
theorem ok_near {f C U : Addr} {fd : FuncData} (F : Fun K "is_near" "is_near" s_is_near f fd) (G_position : Fk P w K mg base (L2.CX P w) 6 "position" ["relink", "host"] (spQh K C U fun j _ => .int (j : Int))) :
    FnOk P w K mg base (L2.CX P w) 7 f fd ["relink", "host"] (spQh K C U fun j c => .bl (decide (j ≤ c))) := by
  refine F.okX sc_is_near (fun vs H Q E h => ?_) (fun cdv A outer s H vs Q E hr h => ?_)
  · obtain ⟨v, h, d, e, rfl, _⟩ := h
    rfl
  · obtain ⟨v, h, d, e, rfl, dn, sm, dh, sh, q2, q1⟩ := h
    refine ⟨_, (pss_one (ps_ret (pe_cmpR op_le (pe_callF G_position (hr.mono (by decide)) (by rfl) (passes_call (E := E) (takes_of rfl rfl rfl rfl) (fun _ _ _ _ h => h)) (pa_cons (pv 0) (pa_cons (pv 1) pa_nil))) (pe_ix ix_tup (pv 0) pe_int (fun _ _ => rfl)) (nomark _)))), ?_⟩
    refine ⟨_, rfl, _, rfl, v, h, d, e, rfl, dn, sm, dh, sh, q2, fun xs c ed ir => ?_⟩
    obtain ⟨q3, q4⟩ := q1 xs c ed ir
    refine ⟨fun j hj H1 s1 => ?_, q4⟩
    subst ed
    obtain ⟨a, b, rfl, ha, hb⟩ := rel_heap dn
    refine ⟨_, rfl, a, _, 1, _, rfl, rfl, (ha.same s1).sq, atI_nat (j := 1) rfl, _, _, rfl, rfl, ?_⟩
    have e : decide ((j : Int) ≤ (c : Int)) = decide (j ≤ c) := by
      congr 1
      rw [eq_iff_iff]
      omega
    show Q (.bl (decide ((j : Int) ≤ (c : Int)))) H1
    rw [e]
    exact q3 j hj H1 s1
/-- whether no host of the first is one of the second -/
def apart (xs ys : List Str) : Bool := !(xs.any fun x => decide (x ∈ ys))
def spInd (K : PySem.W.Frag) (C : Addr) : Sp := fun vs H Q E => ∃ (v u : V) (d e : PyData), vs = [v, u] ∧ Dn K H v d ∧ sml d = true ∧ Dn K H u e ∧ sml e = true ∧ (isRel d = false → Ro E C "value" v H) ∧ (isRel d = true → isRel e = false → Ro E C "value" u H) ∧
  ∀ xs c ys k, d = reld xs c → e = reld ys k → isRel d = true → isRel e = true → ∀ H', Same H H' → Q (.bl (apart xs ys)) H'
theorem ok_ind {f C : Addr} {fd : FuncData} (F : Fun K "are_independent" "are_independent" s_are_independent f fd) (Y : Bn mg) (G_check_relink : Fk P w K mg base (L2.CX P w) 5 "check_relink" ["value"] (spChk K C)) : FnOk P w K mg base (L2.CX P w) 6 f fd ["one", "other"] (spInd K C) := by
  refine F.okX sc_are_independent (fun vs H Q E h => ?_) (fun cdv A outer s H vs Q E hr h => ?_)
  · obtain ⟨v, u, d, e, rfl, _⟩ := h
    rfl
  · obtain ⟨v, u, d, e, rfl, dn, sm, de, se, q1, q2, q3⟩ := h
    refine ⟨_, (pss_cons (ps_expr (pe_callF G_check_relink (hr.mono (by decide)) (by rfl) (passes_call (E := E) (takes_of rfl rfl rfl rfl) (fun _ _ _ _ h => h)) (pa_cons (pv 0) pa_nil)))
 (pss_cons (ps_expr (pe_callF G_check_relink (hr.mono (by decide)) (by rfl) (passes_call (E := E) (takes_of rfl rfl rfl rfl) (fun _ _ _ _ h => h)) (pa_cons (pv 1) pa_nil)))
 (pss_one (ps_ret (pe_not (pe_callB (cr_any rfl) (by rfl) Y.any (by decide +kernel) (pa_cons (pe_lc (own := [("host", 2)]) (g := gName 2) (tt := tYes) rfl sc_are_independent.nd (pi_tup (pe_ix (show IxR _ (rIxT K) from ix_tup) (pv 0) pe_int (fun _ _ => rfl))) (blkOk_by (N := ["one", "other", "host"]) (sc := defScope s_are_independent) (by decide +kernel)) (fun _ _ _ _ _ => (pg_name (i := 2) sc_are_independent.nd rfl (Or.inl rfl))) (fun _ _ _ _ _ => pts_nil) (fun _ _ _ _ _ => (pe_cmpR (show OpR _ _ (rIn K false) from op_in_seq) (pv 2) (pe_ix (show IxR _ (rIxT K) from ix_tup) (pv 1) pe_int (fun _ _ => rfl)) rfl))) pa_nil))))))), ?_⟩
    refine ⟨_, rfl, v, d, rfl, dn, sm, fun c H1 s1 => ?_, q1⟩
    refine ⟨_, rfl, u, e, rfl, de.same s1, se, fun c2 H2 s2 => ?_, fun z => (q2 c z).same s1⟩
    obtain ⟨xs, k, rfl, l3, nd, kl, _⟩ := rel_parts c
    obtain ⟨ys, k2, rfl, m3, nd2, kl2, _⟩ := rel_parts c2
    have s12 := s1.trans s2
    obtain ⟨a, b, rfl, ha, hb⟩ := rel_heap (dn.same s12)
    obtain ⟨a2, b2, rfl, ha2, hb2⟩ := rel_heap (de.same s12)
    have sx : xs.length ≤ 14 := by
      have z : (decide (2 ≤ 14) && ((decide ((xs.map PyData.str).length ≤ 14) && smls (xs.map PyData.str)) && (sml (.int (k : Int)) && true))) = true := sm
      simp only [Bool.and_eq_true, decide_eq_true_eq, List.length_map] at z
      exact z.2.1.1
    refine ⟨_, rfl, a, _, 0, _, rfl, rfl, ha.sq, atI_nat (j := 0) rfl, b, rfl, ⟨_, hb.sq⟩, fun D nD => ?_⟩
    refine lc_it (walk_tup (K := K) (a := b) (xs := xs.map V.str)) (fun i H' => Same H2 H' ∧ H' D = some (.lst (((xs.take i).map fun x => decide (x ∈ ys)).map V.bl))) ⟨same_upd nD, upd_same⟩ (fun i H' _ h => (hb.same h.1).sq) ?_ ?_
    · rintro i y H3 H4 hi ⟨s3, hL⟩ ⟨rfl, hy⟩
      rw [List.getElem?_map] at hy
      obtain ⟨x, hx, rfl⟩ := Option.map_eq_some_iff.mp hy
      refine ⟨rfl, ?_⟩
      dsimp only [tYes]
      refine iteT ?_
      refine ⟨_, rfl, _, rfl, a2, _, 0, _, rfl, rfl, (ha2.same s3).sq, atI_nat (j := 0) rfl, b2, _, rfl, .inr (hb2.same s3).sq, rfl, flat_strs ys, ?_⟩
      show ∃ zs, _ ∧ _
      refine ⟨_, hL, ?_, same_upd2 s3 nD, ?_⟩
      · rw [List.length_map, List.length_map, List.length_take]
        exact small200 (by omega)
      · rw [upd_same, List.take_add_one, hx, List.map_append, List.map_append]
        show some (HO.lst (_ ++ [V.bl (inV (.str x) (ys.map V.str))])) = _
        rw [inV_strs]
        rfl
    · rintro H3 ⟨s3, hL⟩
      rw [List.length_map, List.take_of_length_le (Nat.le_refl _)] at hL
      refine ⟨D, _, rfl, SqL.of hL, _, rfl, ?_⟩
      have e : (!(xs.map fun x => decide (x ∈ ys)).any id) = apart xs ys := by
        rw [List.any_map]
        rfl
      rw [e]
      exact q3 xs k ys k2 rfl rfl c c2 _ (s12.trans s3)
end
end My

namespace My
open PySem PySem.Spec PyProof.Rows L2 Gy Xl Xs Xt
/-! ### data that stand while the pot changes -/
def wo (r : Addr) (H : Hp) : Hp := fun a => if a = r then none else H a
theorem wo_at {r a : Addr} {H : Hp} (n : a ≠ r) : wo r H a = H a := if_neg n
theorem wo_same (r : Addr) (H : Hp) : Same (wo r H) H := fun b o e => by
  by_cases h : b = r
  · rw [wo, if_pos h] at e
    cases e
  · rw [wo_at h] at e
    exact e
theorem wo_but {r : Addr} {H H' : Hp} (h : But r H H') : Same (wo r H) (wo r H') := fun b o e => by
  by_cases n : b = r
  · rw [wo, if_pos n] at e
    cases e
  · rw [wo_at n] at e
    rw [wo_at n]
    exact h b o n e
section
variable {K : PySem.W.Frag} {H H' : Hp} {r : Addr}
/-- data none of which is the pot -/
def Db (K : PySem.W.Frag) (r : Addr) (H : Hp) (v : V) (d : PyData) : Prop := Dn K (wo r H) v d
def Dbs (K : PySem.W.Frag) (r : Addr) (H : Hp) (vs : List V) (ds : List PyData) : Prop := Dns K (wo r H) vs ds
theorem Db.dn {v : V} {d : PyData} (h : Db K r H v d) : Dn K H v d := Dn.same (wo_same r H) h
theorem Db.but {v : V} {d : PyData} (h : Db K r H v d) (b : But r H H') : Db K r H' v d := Dn.same (wo_but b) h
theorem Db.same {v : V} {d : PyData} (h : Db K r H v d) (s : Same H H') : Db K r H' v d := h.but (But.of s)
theorem Dbs.dns {vs : List V} {ds : List PyData} (h : Dbs K r H vs ds) : Dns K H vs ds := Dns.same (wo_same r H) h
theorem Dbs.but {vs : List V} {ds : List PyData} (h : Dbs K r H vs ds) (b : But r H H') : Dbs K r H' vs ds := Dns.same (wo_but b) h
theorem Dbs.same {vs : List V} {ds : List PyData} (h : Dbs K r H vs ds) (s : Same H H') : Dbs K r H' vs ds := h.but (But.of s)
theorem tz_wo {t : Addr} {xs : List V} (R : Rng H r) (z : Tz H t xs) : Tz (wo r H) t xs := by
  obtain ⟨o, e, c⟩ := z
  refine ⟨o, ?_, c⟩
  rw [wo_at (fun n => ?_)]
  · exact e
  · obtain ⟨x, y, e2, _⟩ := R
    rw [n, e2] at e
    cases e
theorem Db.tup {t : Addr} {xs : List V} {ds : List PyData} (R : Rng H r) (z : Tz H t xs) (h : Dbs K r H xs ds) : Db K r H (.ref t) (.tuple ds) := Dn.tup (tz_wo R z) h
theorem Db.lst {l : Addr} {xs : List V} {ds : List PyData} (n : l ≠ r) (e : H l = some (.lst xs)) (h : Dbs K r H xs ds) : Db K r H (.ref l) (.list ds) := Dn.lst (by rw [wo_at n]; exact e) h
theorem Db.dic {l : Addr} (n : l ≠ r) (e : H l = some (.dK [])) : Db K r H (.ref l) (.dict []) := Dn.dic (by rw [wo_at n]; exact e)
theorem Db.str (x : Str) : Db K r H (.str x) (.str x) := Dn.str x
theorem Db.int (i : Int) : Db K r H (.int i) (.int i) := Dn.int i
theorem Db.bl (b : Bool) : Db K r H (.bl b) (.bool b) := Dn.bl b
theorem Db.non : Db K r H .non .none := Dn.non
theorem Dbs.nil : Dbs K r H [] [] := Dns.nil
theorem Dbs.cons {v : V} {vs : List V} {d : PyData} {ds : List PyData} (h : Db K r H v d) (t : Dbs K r H vs ds) : Dbs K r H (v :: vs) (d :: ds) := Dns.cons h t
theorem dns_app : ∀ {vs us : List V} {ds es : List PyData}, Dns K H vs ds → Dns K H us es → Dns K H (vs ++ us) (ds ++ es)
  | _, _, _, _, .nil, h => h
  | _, _, _, _, .cons a t, h => .cons a (dns_app t h)
theorem Dbs.app {vs us : List V} {ds es : List PyData} (h : Dbs K r H vs ds) (h2 : Dbs K r H us es) : Dbs K r H (vs ++ us) (ds ++ es) := dns_app h h2
theorem dns_drop : ∀ {vs : List V} {ds : List PyData} (n : Nat), Dns K H vs ds → Dns K H (vs.drop n) (ds.drop n)
  | _, _, 0, h => h
  | _, _, n + 1, .nil => .nil
  | _, _, n + 1, .cons a t => dns_drop n t
theorem dns_take : ∀ {vs : List V} {ds : List PyData} (n : Nat), Dns K H vs ds → Dns K H (vs.take n) (ds.take n)
  | _, _, 0, _ => .nil
  | _, _, n + 1, .nil => .nil
  | _, _, n + 1, .cons a t => .cons a (dns_take n t)
theorem Dbs.drop {vs : List V} {ds : List PyData} (n : Nat) (h : Dbs K r H vs ds) : Dbs K r H (vs.drop n) (ds.drop n) := dns_drop n h
theorem Dbs.take {vs : List V} {ds : List PyData} (n : Nat) (h : Dbs K r H vs ds) : Dbs K r H (vs.take n) (ds.take n) := dns_take n h
theorem dns_rev : ∀ {vs : List V} {ds : List PyData}, Dns K H vs ds → Dns K H vs.reverse ds.reverse
  | _, _, .nil => .nil
  | _, _, .cons a t => by
    rw [List.reverse_cons, List.reverse_cons]
    exact dns_app (dns_rev t) (.cons a .nil)
theorem Dbs.rev {vs : List V} {ds : List PyData} (h : Dbs K r H vs ds) : Dbs K r H vs.reverse ds.reverse := dns_rev h
theorem dns_mem : ∀ {vs : List V} {ds : List PyData} {v : V}, Dns K H vs ds → v ∈ vs → ∃ d, d ∈ ds ∧ Dn K H v d
  | _, _, _, .nil, h => nomatch h
  | _, _, v, .cons (d := d) a t, h => by
    rcases List.mem_cons.mp h with rfl | h
    · exact ⟨d, List.mem_cons_self, a⟩
    · obtain ⟨e, m, z⟩ := dns_mem t h
      exact ⟨e, List.mem_cons_of_mem _ m, z⟩
theorem Dbs.mem {vs : List V} {ds : List PyData} {v : V} (h : Dbs K r H vs ds) (m : v ∈ vs) : ∃ d, d ∈ ds ∧ Db K r H v d := dns_mem h m
theorem Dbs.len {vs : List V} {ds : List PyData} (h : Dbs K r H vs ds) : vs.length = ds.length := Dns.len h.dns
theorem Dbs.get {vs : List V} {ds : List PyData} (h : Dbs K r H vs ds) {i : Nat} {v : V} (e : vs[i]? = some v) : ∃ d, ds[i]? = some d ∧ Db K r H v d := Dns.get (show Dns K (wo r H) vs ds from h) e
theorem dbs_strs (xs : List Str) : Dbs K r H (xs.map V.str) (xs.map PyData.str) := by
  induction xs with
  | nil => exact .nil
  | cons x xs ih => exact .cons (.str x) ih
theorem upd_new {l : Addr} {o : HO} (e : upd H l o = H') (n : H l = none) : Same H H' ∧ H' l = some o := by
  rw [← e]
  exact ⟨same_upd n, upd_same⟩
end
theorem cutn (xs : List Str) {n : Nat} (h : n ≤ xs.length) : cutV (xs.map V.str) none (some (n : Int)) = (xs.take n).map V.str := by
  unfold cutV
  have e2 : HT.sIx (xs.map V.str).length (xs.map V.str).length (some (n : Int)) = n := by
    rw [HT.sIx_nat, List.length_map]
    omega
  rw [e2, HT.sIx_none, List.drop_zero, Nat.sub_zero, List.map_take]
def rLenS (K : PySem.W.Frag) : List V → Hp → VK → Prop := fun xs H Q => ∃ p ys, xs = [.ref p] ∧ (SqL K H p ys ∨ SqT K H p ys) ∧ Q (.int (ys.length : Int)) H
/-! ### how large they are: tam, with another bound of the lengths -/
mutual
def tm (n : Nat) : PyData → Bool
  | .str x => decide (x.length ≤ 12) && PyData.strOk x
  | .int i => decide (i.natAbs < 1000)
  | .list ds => decide (ds.length ≤ n) && tms n ds
  | .tuple ds => decide (ds.length ≤ n) && tms n ds
  | .dict kvs => kvs.isEmpty
  | .none => true
  | .bool _ => true
def tms (n : Nat) : List PyData → Bool
  | [] => true
  | d :: ds => tm n d && tms n ds
end
mutual
theorem tm_mono {m n : Nat} (h : m ≤ n) : ∀ {d : PyData}, tm m d = true → tm n d = true
  | .str x, a => a
  | .int i, a => a
  | .list ds, a => by
    have a' : ds.length ≤ m ∧ tms m ds = true := by simpa only [tm, Bool.and_eq_true, decide_eq_true_eq] using a
    show (decide (ds.length ≤ n) && tms n ds) = true
    rw [decide_eq_true (by omega), tms_mono h a'.2]
    rfl
  | .tuple ds, a => by
    have a' : ds.length ≤ m ∧ tms m ds = true := by simpa only [tm, Bool.and_eq_true, decide_eq_true_eq] using a
    show (decide (ds.length ≤ n) && tms n ds) = true
    rw [decide_eq_true (by omega), tms_mono h a'.2]
    rfl
  | .dict kvs, a => a
  | .none, _ => rfl
  | .bool _, _ => rfl
theorem tms_mono {m n : Nat} (h : m ≤ n) : ∀ {ds : List PyData}, tms m ds = true → tms n ds = true
  | [], _ => rfl
  | d :: ds, a => by
    have a' : tm m d = true ∧ tms m ds = true := by simpa only [tms, Bool.and_eq_true] using a
    show (tm n d && tms n ds) = true
    rw [tm_mono h a'.1, tms_mono h a'.2]
    rfl
end
mutual
theorem tm_tam : ∀ {d : PyData}, tm 14 d = true → tam d = true
  | .str x, a => a
  | .int i, a => a
  | .list ds, a => by
    have a' : ds.length ≤ 14 ∧ tms 14 ds = true := by simpa only [tm, Bool.and_eq_true, decide_eq_true_eq] using a
    show (decide (ds.length ≤ 14) && tams ds) = true
    rw [decide_eq_true a'.1, tms_tams a'.2]
    rfl
  | .tuple ds, a => by
    have a' : ds.length ≤ 14 ∧ tms 14 ds = true := by simpa only [tm, Bool.and_eq_true, decide_eq_true_eq] using a
    show (decide (ds.length ≤ 14) && tams ds) = true
    rw [decide_eq_true a'.1, tms_tams a'.2]
    rfl
  | .dict kvs, a => a
  | .none, _ => rfl
  | .bool _, _ => rfl
theorem tms_tams : ∀ {ds : List PyData}, tms 14 ds = true → tams ds = true
  | [], _ => rfl
  | d :: ds, a => by
    have a' : tm 14 d = true ∧ tms 14 ds = true := by simpa only [tms, Bool.and_eq_true] using a
    show (tam d && tams ds) = true
    rw [tm_tam a'.1, tms_tams a'.2]
    rfl
end
theorem tms_of {n : Nat} : ∀ {ds : List PyData}, (∀ d ∈ ds, tm n d = true) → tms n ds = true
  | [], _ => rfl
  | d :: ds, h => by
    show (tm n d && tms n ds) = true
    rw [h d List.mem_cons_self, tms_of fun e he => h e (List.mem_cons_of_mem _ he)]
    rfl
theorem tms_mem {n : Nat} : ∀ {ds : List PyData} {d : PyData}, tms n ds = true → d ∈ ds → tm n d = true
  | e :: ds, d, h, m => by
    have h' : tm n e = true ∧ tms n ds = true := by simpa only [tms, Bool.and_eq_true] using h
    rcases List.mem_cons.mp m with rfl | m
    · exact h'.1
    · exact tms_mem h'.2 m
theorem dep_of {k : Nat} : ∀ {ds : List PyData}, (∀ d ∈ ds, d.depth ≤ k) → PyData.depthAll ds ≤ k
  | [], _ => Nat.zero_le _
  | d :: ds, h => by
    show max d.depth (PyData.depthAll ds) ≤ k
    have a := h d List.mem_cons_self
    have b := dep_of fun e he => h e (List.mem_cons_of_mem _ he)
    omega
theorem dep_mem : ∀ {ds : List PyData} {d : PyData}, d ∈ ds → d.depth ≤ PyData.depthAll ds
  | e :: ds, d, m => by
    show d.depth ≤ max e.depth (PyData.depthAll ds)
    rcases List.mem_cons.mp m with rfl | m
    · omega
    · have := dep_mem m
      omega
theorem tm_tup {n k : Nat} {ds : List PyData} (h : ∀ d ∈ ds, tm n d = true ∧ d.depth ≤ k) (l : ds.length ≤ n) : tm n (.tuple ds) = true ∧ (PyData.tuple ds).depth ≤ k + 1 := by
  refine ⟨?_, Nat.succ_le_succ (dep_of fun d hd => (h d hd).2)⟩
  show (decide (ds.length ≤ n) && tms n ds) = true
  rw [decide_eq_true l, tms_of fun d hd => (h d hd).1]
  rfl
theorem tm_lst {n k : Nat} {ds : List PyData} (h : ∀ d ∈ ds, tm n d = true ∧ d.depth ≤ k) (l : ds.length ≤ n) : tm n (.list ds) = true ∧ (PyData.list ds).depth ≤ k + 1 := by
  refine ⟨?_, Nat.succ_le_succ (dep_of fun d hd => (h d hd).2)⟩
  show (decide (ds.length ≤ n) && tms n ds) = true
  rw [decide_eq_true l, tms_of fun d hd => (h d hd).1]
  rfl
end My

namespace My
open PySem PySem.Spec PyProof.Rows L2 Gy Xl Xs Xt
theorem erase_perm {α : Type} : ∀ {xs : List α} {k : Nat} {y : α}, xs[k]? = some y → (y :: xs.eraseIdx k).Perm xs
  | [], k, y, h => by simp at h
  | x :: xs, 0, y, h => by
    simp at h
    subst h
    exact List.Perm.refl _
  | x :: xs, k + 1, y, h => by
    simp only [List.getElem?_cons_succ] at h
    rw [List.eraseIdx_cons_succ]
    exact (List.Perm.swap x y _).trans (List.Perm.cons x (erase_perm h))
theorem seq_ix {k n : Nat} (h : k < n) : seqIndex? (k : Int) n = some k := by
  unfold seqIndex?
  dsimp only
  rw [if_neg (show ¬ (k : Int) < 0 by omega), if_pos (by rw [Bool.and_eq_true, decide_eq_true_eq, decide_eq_true_eq]; omega)]
  rfl
theorem map_erase (xs : List Str) (k : Nat) : (xs.map V.str).eraseIdx k = (xs.eraseIdx k).map V.str := by
  induction xs generalizing k with
  | nil => rfl
  | cons x xs ih =>
    cases k with
    | zero => rfl
    | succ k =>
      show V.str x :: (xs.map V.str).eraseIdx k = V.str x :: (xs.eraseIdx k).map V.str
      rw [ih]
section
variable {P : Program} {w : World} {K : PySem.W.Frag} {mg : Str → Option Value} {base : Heap} {H : Hp}
def spShuf : Sp := fun vs H Q _ => ∃ (r la : Addr) (xs : List Str), vs = [.ref r, .ref la] ∧ Rng H r ∧ la ≠ r ∧ H la = some (.lst (xs.map V.str)) ∧ xs.length ≤ 20 ∧
  ∀ (H' : Hp) (L : Addr) (ys : List Str), But r H H' → Rng H' r → H L = none → H' L = some (.lst (ys.map V.str)) → ys.Perm xs → Q (.ref L) H'
theorem ok_shuf {f : Addr} {fd : FuncData} (F : Fun K "_law_shuffled" "_law_shuffled" s_law_shuffled f fd) (Y : Bn mg) (G_law_draw : Fk P w K mg base CX0 1 "_law_draw" ["_law_rng_here", "_law_many"] spDraw) : FnOk P w K mg base CX0 2 f fd ["_law_rng_here", "_law_some"] spShuf := by
  refine F.ok sc_law_shuffled (fun vs H Q E h => ?_) (fun cdv A outer s H vs Q E hr h => ?_)
  · obtain ⟨r, la, xs, rfl, _⟩ := h
    rfl
  · obtain ⟨r, la, xs, rfl, R, nl, hl, l20, q⟩ := h
    refine ⟨_, (pss_cons (ps_set (i := 2) sc_law_shuffled.nd rfl (.inr rfl) (pe_callTy call_list_of (by rfl) Y.list (by decide +kernel) (pa_cons (pv 1) pa_nil)))
 (pss_one (ps_ret (pe_lc (own := [("_law_k", 3)]) (g := gName 3) (tt := tYes) rfl sc_law_shuffled.nd (pi_range1 (by rfl) Y.range (pa_cons (pe_callB call_len_seq (by rfl) Y.len PySem.boot_len (pa_cons (pv 1) pa_nil)) pa_nil)) (blkOk_by (N := ["_law_rng_here", "_law_some", "_law_rest", "_law_k"]) (sc := defScope s_law_shuffled) (by decide +kernel)) (fun _ _ _ _ _ => (pg_name (i := 3) sc_law_shuffled.nd rfl (Or.inl rfl))) (fun _ _ _ _ _ => pts_nil) (fun _ _ _ _ _ => (show PE _ _ (tBM K "list" rPopAt (tVar 2) _) from pe_bm PySem.F.plainAttrs_list PySem.F.slot_list_pop PySem.F.type_list_pop mt_popAt (pv 2) (pa_cons (pe_callF G_law_draw (hr.mono (by decide)) (by rfl) pass0 (pa_cons (pv 0) (pa_cons (pe_callB (show CallR _ (.builtin "len") (rLenS K) from call_len_seq) (by rfl) Y.len PySem.boot_len (pa_cons (pv 2) pa_nil)) pa_nil))) pa_nil))))))), ?_⟩
    refine ⟨_, rfl, la, _, rfl, .inl (SqL.of hl), fun l2 n2 => ?_⟩
    have ne2 := R.ne n2
    generalize hg : upd _ l2 _ = H2
    obtain ⟨s2, g2⟩ := upd_new hg n2
    clear hg
    have R2 := R.same s2
    refine ⟨_, rfl, la, _, rfl, .inl (SqL.of (s2 _ _ hl)), _, rfl, ?_, ?_, fun D nD => ?_⟩
    · rw [List.length_map]
      omega
    · rw [List.length_map]
      omega
    have neD := R2.ne nD
    have neD2 : D ≠ l2 := fun z => by rw [z, g2] at nD; cases nD
    have nD0 : H D = none := by
      cases z : H D with
      | none => rfl
      | some o => rw [s2 _ _ z] at nD; cases nD
    rw [List.length_map]
    refine lc_it (walk_range (lo := 0) (n := ((xs.length : Int) - 0).toNat)) (fun i H' => But r H H' ∧ Rng H' r ∧ ∃ out rest : List Str, H' D = some (.lst (out.map V.str)) ∧ H' l2 = some (.lst (rest.map V.str)) ∧ (out ++ rest).Perm xs ∧ out.length = i)
      ⟨(But.of s2).trans (But.of (same_upd nD)), R2.upd nD, [], xs, upd_same, (by rw [upd_ne neD2.symm]; exact g2), List.Perm.refl _, rfl⟩ (fun _ _ _ _ => trivial) ?_ ?_
    · rintro i y H3 H4 hi ⟨b3, R3, out, rest, hD, h2, pm, ol⟩ ⟨rfl, rfl⟩
      have pl := pm.length_eq
      rw [List.length_append] at pl
      have rl : 0 < rest.length := by omega
      refine ⟨rfl, ?_⟩
      dsimp only [tYes]
      refine iteT ?_
      refine ⟨_, rfl, .inl ⟨rfl, _, SqL.of h2⟩, _, rfl, _, rfl, l2, _, rfl, .inl (SqL.of h2), ?_⟩
      rw [List.length_map]
      refine ⟨r, _, rfl, R3, by omega, by omega, fun H5 e b5 R5 e0 e1 => ?_⟩
      obtain ⟨k, rfl⟩ := Int.eq_ofNat_of_zero_le e0
      have kl : k < rest.length := by omega
      have hD5 := b5 _ _ neD hD
      have h25 := b5 _ _ ne2 h2
      refine ⟨l2, _, _, k, .str rest[k], rfl, rfl, h25, by omega, by omega, seq_ix (by rw [List.length_map]; exact kl), (by rw [List.getElem?_map, List.getElem?_eq_getElem kl]; rfl), ?_⟩
      rw [map_erase]
      have hD6 : (upd H5 l2 (.lst ((rest.eraseIdx k).map V.str))) D = some (.lst (out.map V.str)) := by
        rw [upd_ne neD2]
        exact hD5
      refine ⟨_, hD6, ?_, ?_, ?_, out ++ [rest[k]], rest.eraseIdx k, ?_, ?_, ?_, ?_⟩
      · rw [List.length_map]
        exact small200 (by omega)
      · exact ((b3.trans b5).upd n2).upd nD0
      · exact (R5.upd2 ne2).upd2 neD
      · rw [upd_same, List.map_append]
        rfl
      · rw [upd_ne neD2.symm, upd_same]
      · rw [List.append_assoc]
        exact (List.Perm.append_left out (erase_perm (List.getElem?_eq_getElem kl))).trans pm
      · rw [List.length_append, ol]
        rfl
    · rintro H3 ⟨b3, R3, out, rest, hD, h2, pm, ol⟩
      have pl := pm.length_eq
      rw [List.length_append] at pl
      have r0 : rest = [] := List.eq_nil_of_length_eq_zero (by omega)
      subst r0
      rw [List.append_nil] at pm
      exact q _ D out b3 R3 nD0 hD pm
def spDrawn : Sp := fun vs H Q _ => ∃ (r la : Addr) (ns : List Str), vs = [.ref r, .ref la] ∧ Rng H r ∧ la ≠ r ∧ H la = some (.lst (ns.map V.str)) ∧ 4 ≤ ns.length ∧ ns.length ≤ 12 ∧ (∀ x ∈ ns, Nm x) ∧ ns.Nodup ∧
  ∀ (H' : Hp) (ra pa : Addr) (xs : List Str) (c : Nat), But r H H' → Rng H' r → Dr H' ra pa xs c → xs.length ≤ 12 → (∀ x ∈ xs, x ∈ ns) → Q (.ref ra) H'
theorem ok_drawn {f : Addr} {fd : FuncData} (F : Fun K "_law_drawn" "_law_drawn" s_law_drawn f fd) (Y : Bn mg) (G_law_draw : Fk P w K mg base CX0 1 "_law_draw" ["_law_rng_here", "_law_many"] spDraw) (G_law_shuffled : Fk P w K mg base CX0 2 "_law_shuffled" ["_law_rng_here", "_law_some"] spShuf) :
    FnOk P w K mg base CX0 3 f fd ["_law_rng_here", "_law_names_here"] spDrawn := by
  refine F.ok sc_law_drawn (fun vs H Q E h => ?_) (fun cdv A outer s H vs Q E hr h => ?_)
  · obtain ⟨r, la, ns, rfl, _⟩ := h
    rfl
  · obtain ⟨r, la, ns, rfl, R, nl, hl, l4, l12, nm, nd, q⟩ := h
    refine ⟨_, (pss_cons (ps_set (i := 2) sc_law_drawn.nd rfl (.inl rfl) (pe_callTy call_tupOf (by rfl) Y.tuple (by decide +kernel) (pa_cons (pe_slice sl_list (pe_callF G_law_shuffled (hr.mono (by decide)) (by rfl) pass0 (pa_cons (pv 0) (pa_cons (pv 1) pa_nil))) po_none (po_some (pe_op op_add pe_int (pe_callF G_law_draw (hr.mono (by decide)) (by rfl) pass0 (pa_cons (pv 0) (pa_cons (pe_op op_sub (pe_callB call_len_seq (by rfl) Y.len PySem.boot_len (pa_cons (pv 1) pa_nil)) pe_int) pa_nil)))))) pa_nil)))
 (pss_one (ps_ret (pe_tupZ (pa_cons (pv 2) (pa_cons (pe_callF G_law_draw (hr.mono (by decide)) (by rfl) pass0 (pa_cons (pv 0) (pa_cons (pe_op op_sub (pe_callB call_len_seq (by rfl) Y.len PySem.boot_len (pa_cons (pv 2) pa_nil)) pe_int) pa_nil))) pa_nil)))))), ?_⟩
    refine ⟨_, rfl, _, rfl, r, la, ns, rfl, R, nl, hl, by omega, fun H1 L ys b1 R1 nL hL pm => ?_⟩
    have neL := R.ne nL
    have hl1 := b1 _ _ nl hl
    have yl := pm.length_eq
    refine ⟨_, rfl, _, rfl, la, _, rfl, .inl (SqL.of hl1), _, _, rfl, rfl, ?_⟩
    rw [List.length_map]
    refine ⟨r, _, rfl, R1, by omega, by omega, fun H2 d b2 R2 d0 d1 => ?_⟩
    obtain ⟨d, rfl⟩ := Int.eq_ofNat_of_zero_le d0
    have hL2 := b2 _ _ neL hL
    refine ⟨_, _, rfl, rfl, _, rfl, L, _, rfl, SqL.of hL2, fun p np => ?_⟩
    rw [show (some ((3 : Int) + (d : Int))) = some ((3 + d : Nat) : Int) by rw [show (3 : Int) + (d : Int) = ((3 + d : Nat) : Int) by omega], cutn ys (by omega)]
    generalize hg : upd _ p _ = H3
    obtain ⟨s3, g3⟩ := upd_new hg np
    clear hg
    have R3 := R2.same s3
    have tl : (ys.take (3 + d)).length = 3 + d := by rw [List.length_take]; omega
    refine ⟨p, _, rfl, SqL.of g3, (by rw [List.length_map, tl]; omega), fun pa o4 n4 s4 pz => ?_⟩
    generalize upd _ pa o4 = H4 at s4 pz ⊢
    have R4 := R3.same s4
    refine ⟨_, rfl, _, rfl, _, rfl, pa, _, rfl, .inr pz.sq, _, _, rfl, rfl, ?_⟩
    rw [List.length_map, tl]
    refine ⟨r, _, rfl, R4, by omega, by omega, fun H5 c b5 R5 c0 c1 => ?_⟩
    obtain ⟨c, rfl⟩ := Int.eq_ofNat_of_zero_le c0
    have pz5 := pz.but R4 b5
    refine ⟨(by show 2 ≤ sizeLine; decide), fun ra o6 n6 s6 rz => ?_⟩
    have my : ∀ x ∈ ys.take (3 + d), x ∈ ns := fun x hx => pm.mem_iff.mp (List.mem_of_mem_take hx)
    refine q _ ra pa (ys.take (3 + d)) c (b1.trans (b2.trans ((But.of (s3.trans s4)).trans (b5.trans (But.of s6))))) (R5.same s6) ⟨rz, pz5.same s6, by omega, by omega, fun x hx => nm x (my x hx), ?_⟩ (by omega) my
    exact (pm.nodup_iff.mpr nd).sublist (List.take_sublist _ _)
end
end My

namespace My
open PySem PySem.Spec PyProof.Rows L2 Gy Xl Xs Xt
theorem at_inL {H : Hp} {a : Addr} {xs : List V} {d n : Int} (h : H a = some (.lst xs)) (l : (xs.length : Int) = n) (h0 : 0 ≤ d) (h1 : d < n) : ∃ v, atI xs d = some v ∧ v ∈ xs := at_in h0 (by rw [l]; exact h1)
def odd16 : List PyData := [.none, .bool true, .bool false, .int 0, .int 1, .int (-7), .str "", .str "A", .str "a1", .str "a b", .str "abcdefghi", .str "a\n", .str " a", .list [], .tuple [], .dict [], .list [.str "a"], .tuple [.str "a"], .str "z-"]
theorem odd16_ok : ∀ d ∈ odd16, tm 2 d = true ∧ d.depth ≤ 1 := by
  intro d hd
  unfold odd16 at hd
  simp only [List.mem_cons, List.not_mem_nil, or_false] at hd
  rcases hd with rfl | rfl | rfl | rfl | rfl | rfl | rfl | rfl | rfl | rfl | rfl | rfl | rfl | rfl | rfl | rfl | rfl | rfl | rfl
  all_goals exact ⟨by decide +kernel, by decide +kernel⟩
section
variable {P : Program} {w : World} {K : PySem.W.Frag} {mg : Str → Option Value} {base : Heap} {H : Hp}
def spOdd (K : PySem.W.Frag) : Sp := fun vs H Q _ => ∃ r : Addr, vs = [.ref r] ∧ Rng H r ∧ ∀ H' v d, But r H H' → Rng H' r → Db K r H' v d → tm 2 d = true → d.depth ≤ 1 → Q v H'
theorem ok_odd {f : Addr} {fd : FuncData} (F : Fun K "_law_odd" "_law_odd" s_law_odd f fd) (Y : Bn mg) (G_law_draw : Fk P w K mg base CX0 1 "_law_draw" ["_law_rng_here", "_law_many"] spDraw) : FnOk P w K mg base CX0 2 f fd ["_law_rng_here"] (spOdd K) := by
  refine F.ok sc_law_odd (fun vs H Q E h => ?_) (fun cdv A outer s H vs Q E hr h => ?_)
  · obtain ⟨r, rfl, _⟩ := h
    rfl
  · obtain ⟨r, rfl, R, q⟩ := h
    refine ⟨_, (pss_cons (ps_set (i := 1) sc_law_odd.nd rfl (.inl rfl) (pe_lst (pa_cons pe_non (pa_cons pe_bl (pa_cons pe_bl (pa_cons pe_int (pa_cons pe_int (pa_cons (pe_un un_neg pe_int) (pa_cons pe_str (pa_cons pe_str (pa_cons pe_str (pa_cons pe_str (pa_cons pe_str (pa_cons pe_str (pa_cons pe_str (pa_cons (pe_lst pa_nil) (pa_cons (pe_tupZ pa_nil) (pa_cons pe_dnewK pa_nil))))))))))))))))))
 (pss_one (ps_ret (pe_ix ix_list (pe_op op_cat (pv 1) (pe_lst (pa_cons (pe_lst (pa_cons pe_str pa_nil)) (pa_cons (pe_tupZ (pa_cons pe_str pa_nil)) (pa_cons pe_str pa_nil))))) (pe_callF G_law_draw (hr.mono (by decide)) (by rfl) pass0 (pa_cons (pv 0) (pa_cons pe_int pa_nil))) (fun _ _ => rfl))))), ?_⟩
    have D : Dbs K r H [] [] := .nil
    have b0 : But r H H := But.of (Same.refl _)
    have D := D.app (.cons (.non) .nil)
    have D := D.app (.cons (.bl true) .nil)
    have D := D.app (.cons (.bl false) .nil)
    have D := D.app (.cons (.int 0) .nil)
    have D := D.app (.cons (.int 1) .nil)
    refine ⟨_, rfl, ?_⟩
    have D := D.app (.cons (.int (-7)) .nil)
    have D := D.app (.cons (.str "") .nil)
    have D := D.app (.cons (.str "A") .nil)
    have D := D.app (.cons (.str "a1") .nil)
    have D := D.app (.cons (.str "a b") .nil)
    have D := D.app (.cons (.str "abcdefghi") .nil)
    have D := D.app (.cons (.str "a\n") .nil)
    have D := D.app (.cons (.str " a") .nil)
    refine ⟨(by show 0 ≤ sizeLine; decide), fun l1 n1 => ?_⟩
    have ne1 := R.ne n1
    generalize hg : upd _ l1 _ = H1
    obtain ⟨s1, g1⟩ := upd_new hg n1
    clear hg
    have D := D.same s1
    have R := R.same s1
    have b0 := b0.trans (But.of s1)
    have D := D.app (.cons (.lst ne1 g1 (.nil)) .nil)
    refine ⟨(by show 0 ≤ sizeLine; decide), fun t2 o2 n2 s2 z2 => ?_⟩
    have D := D.same s2
    have R := R.same s2
    have b0 := b0.trans (But.of s2)
    generalize upd _ t2 o2 = H2 at D R b0 z2  ⊢
    have D := D.app (.cons (.tup R z2 (.nil)) .nil)
    refine fun l3 n3 => ?_
    have ne3 := R.ne n3
    generalize hg : upd _ l3 _ = H3
    obtain ⟨s3, g3⟩ := upd_new hg n3
    clear hg
    have D := D.same s3
    have R := R.same s3
    have b0 := b0.trans (But.of s3)
    have D := D.app (.cons (.dic ne3 g3) .nil)
    refine ⟨(by show 16 ≤ sizeLine; decide), fun l4 n4 => ?_⟩
    have ne4 := R.ne n4
    generalize hg : upd _ l4 _ = H4
    obtain ⟨s4, g4⟩ := upd_new hg n4
    clear hg
    have D := D.same s4
    have R := R.same s4
    have b0 := b0.trans (But.of s4)
    have h1 := g4
    refine ⟨_, rfl, ?_⟩
    refine ⟨(by show 1 ≤ sizeLine; decide), fun l5 n5 => ?_⟩
    have ne5 := R.ne n5
    generalize hg : upd _ l5 _ = H5
    obtain ⟨s5, g5⟩ := upd_new hg n5
    clear hg
    have D := D.same s5
    have R := R.same s5
    have b0 := b0.trans (But.of s5)
    have h1 := s5 _ _ h1
    have D := D.app (.cons (.lst ne5 g5 (.cons (.str _) (.nil))) .nil)
    refine ⟨(by show 1 ≤ sizeLine; decide), fun t6 o6 n6 s6 z6 => ?_⟩
    have D := D.same s6
    have R := R.same s6
    have b0 := b0.trans (But.of s6)
    have h1 := s6 _ _ h1
    generalize upd _ t6 o6 = H6 at D R b0 z6 h1 ⊢
    have D := D.app (.cons (.tup R z6 (.cons (.str _) (.nil))) .nil)
    have D := D.app (.cons (.str "z-") .nil)
    refine ⟨(by show 3 ≤ sizeLine; decide), fun l7 n7 => ?_⟩
    have ne7 := R.ne n7
    generalize hg : upd _ l7 _ = H7
    obtain ⟨s7, g7⟩ := upd_new hg n7
    clear hg
    have D := D.same s7
    have R := R.same s7
    have b0 := b0.trans (But.of s7)
    have h1 := s7 _ _ h1
    have h2 := g7
    refine ⟨l4, l7, _, _, rfl, rfl, h1, h2, (by show 19 ≤ sizeLine; decide), fun a3 n8 => ?_⟩
    have ne3 := R.ne n8
    generalize hg : upd _ a3 _ = H8
    obtain ⟨s8, h3⟩ := upd_new hg n8
    clear hg h1 h2
    have D := D.same s8
    have R := R.same s8
    have b0 := b0.trans (But.of s8)
    simp only [List.cons_append, List.nil_append] at D h3
    refine ⟨_, rfl, r, 19, rfl, R, by decide, by decide, fun H' e b' R' e0 e1 => ?_⟩
    have h3 := b' _ _ ne3 h3
    obtain ⟨v, hv, mv⟩ := at_inL h3 rfl e0 e1
    refine ⟨a3, _, e, v, rfl, rfl, SqL.of h3, hv, ?_⟩
    obtain ⟨d, md, dnd⟩ := (D.but b').mem mv
    obtain ⟨i1, i2⟩ := odd16_ok d md
    exact q H' v d (b0.trans b') R' dnd i1 i2
end
end My

/-! A tuple turned about: t[::-1]. Tuples, and any value, compared. -/
namespace Xt
open PySem PySem.Spec PyProof.Rows L2 Gy
theorem back_ends (n : Nat) : Builtin.Slice.sliceAdjust none none (-1) (n : Int) = ((n : Int) - 1, -1) := rfl
theorem back_places (n : Nat) : Builtin.Slice.slicePlaces ((n : Int) - 1) (-1) (-1) = n := by
  unfold Builtin.Slice.slicePlaces
  rw [if_neg (by decide)]
  by_cases h : n = 0
  · subst h
    rfl
  · rw [if_pos (by omega), show (- -1 : Int) = 1 from rfl, Int.ediv_one]
    omega
theorem back_pick (xs : Array Value) : ((List.range xs.size).filterMap fun (m : Nat) => xs[(((xs.size : Int) - 1) + (m : Int) * (-1)).toNat]?).toArray = xs.toList.reverse.toArray := by
  congr 1
  refine List.ext_getElem? fun i => ?_
  have key : ∀ k, k ≤ xs.size → (List.range k).filterMap (fun (m : Nat) => xs[(((xs.size : Int) - 1) + (m : Int) * (-1)).toNat]?) = xs.toList.reverse.take k := by
    intro k
    induction k with
    | zero => intro _; rfl
    | succ k ih =>
      intro hk
      have lt : xs.size - 1 - k < xs.size := by omega
      have e : (((xs.size : Int) - 1) + (k : Int) * (-1)).toNat = xs.size - 1 - k := by omega
      have g : xs.toList.reverse[k]? = some xs[xs.size - 1 - k] := by
        have l : k < xs.toList.reverse.length := by
          rw [List.length_reverse, Array.length_toList]
          omega
        rw [List.getElem?_eq_getElem l, List.getElem_reverse]
        simp
      rw [List.range_succ, List.filterMap_append, ih (by omega), List.take_add_one, g]
      congr 1
      rw [List.filterMap_cons_some (b := xs[xs.size - 1 - k]) (by rw [e]; exact Array.getElem?_eq_getElem lt)]
      rfl
  rw [key xs.size (Nat.le_refl _), List.take_of_length_le (by rw [List.length_reverse, Array.length_toList]; exact Nat.le_refl _)]
section
variable {prog : Program} {w : World} {A : Around} {E : Value → Shared → Prop} {s : Shared}
theorem applied_back {sl : Addr} {vl vu vs : Value} {n : Nat} {Q : Int × Int × Nat → Shared → Prop} (hs : s.heap.IsSliceOf sl vl vu vs) (pl : IsPart vl none) (pu : IsPart vu none) (ps : IsPart vs (some (-1)))
    (h : Q ((n : Int) - 1, -1, n) s) : wpAny (model prog w) A (Builtin.Slice.sliceApplied (.ref sl) (pure (n : Int))) Q E s := by
  obtain ⟨o, e1, e2, e3⟩ := id hs
  unfold Builtin.Slice.sliceApplied Builtin.Slice.sliceFields
  refine wpAny_bind (wpAny_bind (wpAny_field e1 e3 (x := vl) rfl ?_))
  refine wpAny_bind (wpAny_field e1 e3 (x := vu) rfl ?_)
  refine wpAny_bind (wpAny_field e1 e3 (x := vs) rfl (wpAny_pure ?_))
  refine wpAny_bind (HT.slicePart_ ps ?_)
  show wpAny _ _ (if ((-1 : Int) == 0) = true then _ else _) _ _ s
  rw [if_neg (by decide)]
  refine wpAny_bind (HT.slicePart_ pl ?_)
  refine wpAny_bind (HT.slicePart_ pu ?_)
  refine wpAny_bind (wpAny_pure ?_)
  show wpAny _ _ (pure ((Builtin.Slice.sliceAdjust none none (-1) (n : Int)).1, (-1 : Int), Builtin.Slice.slicePlaces (Builtin.Slice.sliceAdjust none none (-1) (n : Int)).1 (Builtin.Slice.sliceAdjust none none (-1) (n : Int)).2 (-1))) _ _ s
  rw [back_ends, back_places]
  exact wpAny_pure h
theorem item_back {t sl : Addr} {items : Array Value} {vl vu vs : Value} {Q : Value → Shared → Prop} (ht : IsTup s.heap t items) (hs : s.heap.IsSliceOf sl vl vu vs) (pl : IsPart vl none) (pu : IsPart vu none) (ps : IsPart vs (some (-1)))
    (h : Q (.ref s.heap.objs.size) { s with heap := s.heap.push { cls := .type "tuple", data := .seq items.toList.reverse.toArray } }) (hz : items.size ≤ sizeLine) : wpAny (model prog w) A (getItem (.ref t) (.ref sl)) Q E s := by
  have fits : sizeOk (.seq items.toList.reverse.toArray) := by
    show items.toList.reverse.toArray.size ≤ sizeLine
    rw [List.size_toArray, List.length_reverse, Array.length_toList]
    exact hz
  obtain ⟨o, e1, e2, e3⟩ := id hs
  have ty : s.TypeIs (.ref sl) "slice" := ⟨o, e1, e2⟩
  unfold getItem
  try with_reducible refine wpAny_holding ?_
  first
    | refine wpAny_bind (wpAny_pure ?_)
    | skip
  refine wpAny_bind (wpAny_sequenceKey ht.typeIs (by decide) ?_)
  refine wpAny_bind (wpAny_callSpecial?_slot (name := Str.ofString "__getitem__") ht.typeIs PyProof.Rows.slot_tuple_getitem (wpAny_call_entry PyProof.Rows.slot_tuple_getitem ht.typeIs entry_tuple_getitem ?_ (args_tuple_getitem _ _)))
  refine (?_ : wpAny _ _ (Builtin.Tuple.tupleItemsOf (.ref t) >>= _) _ _ s)
  refine wpAny_bind (tupleItemsOf_ ht ?_)
  refine wpAny_bind (wpAny_typeOf ty ?_)
  rw [if_pos (by decide)]
  refine wpAny_bind (applied_back hs pl pu ps ?_)
  have no : ¬ ((((items.size : Int) - 1) == 0 && (-1 : Int) == 1 && items.size == items.size) = true) := fun q => by
    rw [Bool.and_eq_true, Bool.and_eq_true] at q
    exact absurd q.1.2 (by decide)
  refine (?_ : wpAny _ _ (if (((items.size : Int) - 1) == 0 && (-1 : Int) == 1 && items.size == items.size) = true then _ else _) _ _ s)
  rw [if_neg no, back_pick]
  first
    | exact wpAny_bind (m := Builtin.Tuple.tupleExact _) (wpAny_newObj_type (wpAny_pure ⟨_, rfl, wpAny_pure h⟩) fits)
    | exact wpAny_bind (wpAny_bind (m := Builtin.Tuple.tupleExact _) (wpAny_newObj_type (wpAny_pure (wpAny_pure ⟨_, rfl, wpAny_pure h⟩)) fits))
    | exact wpAny_bind (wpAny_bind (m := Builtin.Tuple.tupleExact _) (wpAny_newObj_type (wpAny_pure ⟨_, rfl, wpAny_pure h⟩) fits))
end
section
variable {X : Cx}
/-- t[::-1] -/
def tRevT (K : PySem.W.Frag) (te : TE) : TE := fun σ H Q => te σ H fun x H1 => ∃ a xs, x = .ref a ∧ SqT K H1 a xs ∧ NewT xs.reverse H1 Q
theorem pe_revT {e : Expr} {te : TE} {k : Nat} {p1 p2 p3 pos : Pos} (he : PE X e te) : PE X (.Subscript e (.Slice none none (some (.UnaryOp .USub (.Constant (.int 1) k p1) p2)) p3) pos) (tRevT X.K te) := by
  constructor
  intro pins s σ H Q I h
  refine Subscript_ (thn (he.run pins s σ H _ I h) ?_)
  rintro v s1 ⟨x, H1, I1, r1, a, xs, rfl, hx, q⟩
  cases r1
  have hst : PO X (some (.UnaryOp .USub (.Constant (.int 1) k p1) p2)) (tPart (tUn (rU fun i => .int (-i)) (tC (.int 1)))) := po_some (pe_un un_neg pe_int)
  refine wpAny_Slice (thn (po_none.run pins s1 σ H1 (fun o H2 => o = none ∧ H2 = H1) I1 ⟨rfl, rfl⟩) ?_)
  rintro vl s2 ⟨l, H2, I2, pl, rfl, rfl⟩
  refine thn (po_none.run pins s2 σ H2 (fun o H3 => o = none ∧ H3 = H2) I2 ⟨rfl, rfl⟩) ?_
  rintro vu s3 ⟨u, H3, I3, pu, rfl, rfl⟩
  refine thn (hst.run pins s3 σ H3 (fun o H4 => o = some (-1) ∧ H4 = H3) I3 ⟨1, rfl, -1, rfl, rfl, rfl⟩) ?_
  rintro vs s4 ⟨o, H4, I4, ps, rfl, rfl⟩
  have I5 : Inv X pins σ H4 { s4 with heap := s4.heap.push { cls := .type "slice", data := .fields #[vl, vu, vs] } } := I4.kept (t' := s4.toks) fun b ob z => Heap.get?_push_of_some _ z
  obtain ⟨its, r, ht, hz⟩ := I5.tuple hx
  have len := r.length
  refine (?_ : wpAny (model X.prog X.w) X.A (subscriptTail e _ (.ref a) (.ref s4.heap.objs.size)) (EP X pins σ Q) X.xe _)
  refine tail_any (ops := [.ref a, .ref s4.heap.objs.size]) ht.typeIs (PyProof.Rows.slot_tuple_getitem.lookup) ?_ (by with_unfolding_all rfl)
  refine item_back ht (Heap.IsSliceOf.new _ vl vu vs) pl pu ps ?_ (by rw [List.size_toArray]; omega)
  exact lay_new (n := 0) I5 (by rw [List.length_reverse]; exact hz) r.reverse q
/-- t == u, t != u: one of them has no items -/
def rEmT (K : PySem.W.Frag) (f : Bool → Bool) : R2 := fun x y H Q => ∃ a b xs, x = .ref a ∧ y = .ref b ∧ SqT K H a xs ∧ SqT K H b [] ∧ Q (.bl (f xs.isEmpty)) H
theorem op_eqEmT (hu : X.A.units < cLine) : OpR X (compareOp .Eq) (rEmT X.K id) := by
  intro pins s σ H x y v u Q I rx ry h
  obtain ⟨a, b, xs, rfl, rfl, ha, hb, q⟩ := h
  cases rx
  cases ry
  obtain ⟨i1, r1, t1, _⟩ := I.tuple ha
  obtain ⟨i2, r2, t2, _⟩ := I.tuple hb
  cases r2
  refine SeqAt.eq_tupleAt (e := fun _ => true) t1 t2 hu (fun j h1 h2 => absurd h2 (Nat.not_lt_zero j)) ?_
  refine ⟨.bl (id xs.isEmpty), H, I, ?_, q⟩
  have l := r1.length
  cases xs with
  | nil =>
    cases r1
    rfl
  | cons y ys =>
    cases i1 with
    | nil => cases l
    | cons z zs => rfl
theorem op_neEmT (hu : X.A.units < cLine) : OpR X (compareOp .NotEq) (rEmT X.K not) := by
  intro pins s σ H x y v u Q I rx ry h
  obtain ⟨a, b, xs, rfl, rfl, ha, hb, q⟩ := h
  cases rx
  cases ry
  obtain ⟨i1, r1, t1, _⟩ := I.tuple ha
  obtain ⟨i2, r2, t2, _⟩ := I.tuple hb
  cases r2
  refine SeqAt.RcNeAt.tuples (e := fun _ => true) t1 t2 hu (fun j h1 h2 => absurd h2 (Nat.not_lt_zero j)) _ _ _ _ ?_
  refine ⟨.bl (not xs.isEmpty), H, I, ?_, q⟩
  have l := r1.length
  cases xs with
  | nil =>
    cases r1
    rfl
  | cons y ys =>
    cases i1 with
    | nil => cases l
    | cons z zs => rfl
end
end Xt
namespace Xt
open PySem PySem.Spec PyProof.Rows L2 Gy
/-- l == []: a list and one without items -/
def rEmL (K : PySem.W.Frag) : R2 := fun x y H Q => ∃ a b xs, x = .ref a ∧ y = .ref b ∧ SqL K H a xs ∧ SqL K H b [] ∧ Q (.bl xs.isEmpty) H
theorem op_eqEmL {X : Cx} (hu : X.A.units < cLine) : OpR X (compareOp .Eq) (rEmL X.K) := by
  intro pins s σ H x y v u Q I rx ry h
  obtain ⟨a, b, xs, rfl, rfl, ha, hb, q⟩ := h
  cases rx
  cases ry
  obtain ⟨i1, r1, t1, _⟩ := I.list ha
  obtain ⟨i2, r2, t2, _⟩ := I.list hb
  cases r2
  cases xs with
  | nil =>
    cases r1
    exact SeqAt.eq_listAt (e := fun _ => true) t1.isList t2.isList rfl hu (fun j h1 h2 => absurd h2 (Nat.not_lt_zero j)) ⟨.bl true, H, I, rfl, q⟩
  | cons y ys =>
    cases r1 with
    | cons h t =>
      exact SeqAt.eq_list_lengthsAt t1.isList t2.isList (by simp) hu ⟨.bl false, H, I, rfl, q⟩
end Xt

namespace My
open PySem PySem.Spec PyProof.Rows L2 Gy Xl Xs Xt
theorem cut_take (xs : List V) (n : Nat) : cutV xs none (some (n : Int)) = xs.take n := by
  unfold cutV
  rw [HT.sIx_none, HT.sIx_nat, List.drop_zero, Nat.sub_zero]
  by_cases h : n ≤ xs.length
  · rw [Nat.min_eq_left h]
  · rw [Nat.min_eq_right (by omega), List.take_of_length_le (Nat.le_refl _), List.take_of_length_le (by omega)]
theorem cut_drop (xs : List V) (n : Nat) : cutV xs (some (n : Int)) none = xs.drop n := by
  unfold cutV
  rw [HT.sIx_none, HT.sIx_nat]
  by_cases h : n ≤ xs.length
  · rw [Nat.min_eq_left h, List.take_of_length_le (by rw [List.length_drop]; exact Nat.le_refl _)]
  · rw [Nat.min_eq_right (by omega), Nat.sub_self, List.take_zero, List.drop_eq_nil_of_le (by omega)]
theorem cut_dropI (xs : List V) (n : Nat) : cutV xs (some ((n : Int) + 1)) none = xs.drop (n + 1) := cut_drop xs (n + 1)
theorem rcut_of {H : Hp} {a : Addr} {xs ys : List V} {lo hi : Option Int} {Q : VK} (z : Tz H a xs) (e : cutV xs lo hi = ys) (k : ∀ t H', Same H H' → Tz H' t ys → Q (.ref t) H') : NewT (cutV xs lo hi) H Q ∧ (cutV xs lo hi = xs → Q (.ref a) H) := by
  refine ⟨fun p o n s t => k p _ s ?_, fun w => k a H (Same.refl _) ?_⟩
  · rw [← e]
    exact t
  · rw [← e, w]
    exact z
theorem rot3 {A B C : Prop} (h : C ∧ A ∧ B) : A ∧ B ∧ C := ⟨h.2.1, h.2.2, h.1⟩
theorem sum_of {H : Hp} {a b : Addr} {xs ys : List V} {Q : VK} (z1 : Tz H a xs) (z2 : Tz H b ys) (k : ∀ t H', Same H H' → Tz H' t (xs ++ ys) → Q (.ref t) H') : NewT (xs ++ ys) H Q ∧ (xs = [] → Q (.ref b) H) ∧ (ys = [] → Q (.ref a) H) := by
  refine ⟨fun p o n s t => k p _ s t, fun w => k b H (Same.refl _) ?_, fun w => k a H (Same.refl _) ?_⟩
  · rw [w]
    exact z2
  · rw [w, List.append_nil]
    exact z1
theorem cut_mid (xs : List V) (n : Nat) : cutV xs (some (n : Int)) (some ((n : Int) + 1)) = (xs.drop n).take 1 := by
  unfold cutV
  rw [show (n : Int) + 1 = ((n + 1 : Nat) : Int) by omega, HT.sIx_nat, HT.sIx_nat]
  by_cases h : n < xs.length
  · rw [Nat.min_eq_left (by omega), Nat.min_eq_left (by omega), show n + 1 - n = 1 by omega]
  · rw [Nat.min_eq_right (by omega), Nat.min_eq_right (by omega), Nat.sub_self, List.take_zero, List.drop_eq_nil_of_le (by omega), List.take_nil]
theorem mem2 {p : PyData → Prop} {xs ys : List PyData} (h1 : ∀ d ∈ xs, p d) (h2 : ∀ d ∈ ys, p d) : ∀ d ∈ xs ++ ys, p d := fun d hd => by
  rcases List.mem_append.mp hd with hd | hd
  · exact h1 d hd
  · exact h2 d hd
section
variable {P : Program} {w : World} {K : PySem.W.Frag} {mg : Str → Option Value} {base : Heap} {H : Hp}
theorem db_tup {r a : Addr} {ps : List PyData} (h : Db K r H (.ref a) (.tuple ps)) : ∃ us, Tz H a us ∧ Dbs K r H us ps := by
  cases h with
  | tup z t => exact ⟨_, z.same (wo_same r H), t⟩
/-- a spoilt value, of depth k at most -/
def spSp (K : PySem.W.Frag) (k : Nat) : Sp := fun vs H Q _ => ∃ (r : Addr) (v : V) (d : PyData) (n : Nat), vs = [.ref r, v] ∧ Rng H r ∧ Db K r H v d ∧ tm n d = true ∧ 12 ≤ n ∧ n ≤ 13 ∧ d.depth ≤ k ∧
  ∀ H' u e, But r H H' → Rng H' r → Db K r H' u e → tm (n + 1) e = true → e.depth ≤ d.depth + 1 → Q u H'
def spRec (K : PySem.W.Frag) : Nat → Sp
  | 0 => fun _ _ _ _ => False
  | k + 1 => spSp K k
theorem ok_sp {f : Addr} {fd : FuncData} (k : Nat) (F : Fun K "_law_spoilt" "_law_spoilt" s_law_spoilt f fd) (Y : Bn mg) (G_law_draw : Fk P w K mg base CX0 1 "_law_draw" ["_law_rng_here", "_law_many"] spDraw) (G_law_odd : Fk P w K mg base CX0 2 "_law_odd" ["_law_rng_here"] (spOdd K))
    (G_law_spoilt : Fk P w K mg base CX0 (k + 3) "_law_spoilt" ["_law_rng_here", "_law_value"] (spRec K k)) : FnOk P w K mg base CX0 (k + 4) f fd ["_law_rng_here", "_law_value"] (spSp K k) := by
  refine F.ok sc_law_spoilt (fun vs H Q E h => ?_) (fun cdv A outer s H vs Q E hr h => ?_)
  · obtain ⟨r, v, d, n, rfl, _⟩ := h
    rfl
  · obtain ⟨r, v, d, n, rfl, R, dv, tmd, n12, n13, dk, q⟩ := h
    have hu0 := Nat.lt_of_le_of_lt (Nat.le_add_right _ 64) hr.units
    have b0 : But r H H := But.of (Same.refl _)
    refine ⟨_, (pss_cons (ps_if (PW.pt (pw_or (pt_not (pt_val (pe_callB call_isi (by rfl) Y.isinstance (by decide +kernel) (pa_cons (pv 1) (pa_cons (pe_bltn (v := .ty "tuple") (by rfl) Y.tuple (by decide +kernel) rfl) pa_nil))))) (pw_or (pt_cmpR (op_eqEmT hu0) (pv 1) (pe_tupZ pa_nil) (nomark _)) (pw_or1 (pt_cmpR op_eq (pe_callF G_law_draw (hr.mono (by omega)) (by rfl) pass0 (pa_cons (pv 0) (pa_cons pe_int pa_nil))) pe_int (nomark _))))))
 (pss_one (ps_ret (pe_callF G_law_odd (hr.mono (by omega)) (by rfl) pass0 (pa_cons (pv 0) pa_nil))))
 pss_nil)
 (pss_cons (ps_par (i := 2) (j := 3) (by rfl) sc_law_spoilt.nd rfl rfl (by decide) rfl rfl (pa_cons (pe_callF G_law_draw (hr.mono (by omega)) (by rfl) pass0 (pa_cons (pv 0) (pa_cons (pe_callB call_len_seq (by rfl) Y.len PySem.boot_len (pa_cons (pv 1) pa_nil)) pa_nil))) (pa_cons (pe_callF G_law_draw (hr.mono (by omega)) (by rfl) pass0 (pa_cons (pv 0) (pa_cons pe_int pa_nil))) pa_nil)) (by rfl))
 (pss_cons (ps_if (pt_cmpR op_eq (pv 3) pe_int (nomark _))
 (pss_one (ps_ret (pe_op op_sum (pe_slice sl_cutA (pv 1) po_none (po_some (pv 2))) (pe_slice sl_cutA (pv 1) (po_some (pe_op op_add (pv 2) pe_int)) po_none))))
 pss_nil)
 (pss_cons (ps_if (pt_cmpR op_eq (pv 3) pe_int (nomark _))
 (pss_one (ps_ret (pe_op op_sum (pe_op op_sum (pe_slice sl_cutA (pv 1) po_none (po_some (pv 2))) (pe_slice sl_cutA (pv 1) (po_some (pv 2)) (po_some (pe_op op_add (pv 2) pe_int)))) (pe_slice sl_cutA (pv 1) (po_some (pv 2)) po_none))))
 pss_nil)
 (pss_cons (ps_if (pt_cmpR op_eq (pv 3) pe_int (nomark _))
 (pss_one (ps_ret (pe_callTy call_list_of (by rfl) Y.list (by decide +kernel) (pa_cons (pv 1) pa_nil))))
 pss_nil)
 (pss_cons (ps_if (pt_cmpR op_eq (pv 3) pe_int (nomark _))
 (pss_one (ps_ret (pe_revT (pv 1))))
 pss_nil)
 (pss_cons (ps_if (pt_cmpR op_eq (pv 3) pe_int (nomark _))
 (pss_cons (ps_set (i := 4) sc_law_spoilt.nd rfl (.inl rfl) (pe_ix ix_list (pe_lst (pa_cons pe_bl (pa_cons (pe_un un_neg pe_int) (pa_cons (pe_callB call_len_seq (by rfl) Y.len PySem.boot_len (pa_cons (pv 1) pa_nil)) (pa_cons pe_int (pa_cons pe_str (pa_cons pe_str (pa_cons (pe_ix ix_tup (pv 1) pe_int (fun _ _ => rfl)) pa_nil)))))))) (pe_callF G_law_draw (hr.mono (by omega)) (by rfl) pass0 (pa_cons (pv 0) (pa_cons pe_int pa_nil))) (fun _ _ => rfl)))
 (pss_one (ps_ret (pe_op op_sum (pe_op op_sum (pe_slice sl_cutA (pv 1) po_none (po_some (pv 2))) (pe_tupZ (pa_cons (pv 4) pa_nil))) (pe_slice sl_cutA (pv 1) (po_some (pe_op op_add (pv 2) pe_int)) po_none)))))
 pss_nil)
 (pss_one (ps_ret (pe_op op_sum (pe_op op_sum (pe_slice sl_cutA (pv 1) po_none (po_some (pv 2))) (pe_tupZ (pa_cons (pe_callF G_law_spoilt (hr.mono (by omega)) (by rfl) pass0 (pa_cons (pv 0) (pa_cons (pe_ix ix_tup (pv 1) (pv 2) (fun _ _ => rfl)) pa_nil))) pa_nil))) (pe_slice sl_cutA (pv 1) (po_some (pe_op op_add (pv 2) pe_int)) po_none))))))))))), ?_⟩
    rcases tup_or dv.dn with ⟨ta, xs0, ds, rfl, rfl, hz0, hd0⟩ | ⟨no, t, ty, kt⟩
    case' inr =>
      refine ⟨v, rfl, v, _, _, _, false, rfl, .ty "tuple", ty, kit_ty kt, _, rfl, ?_⟩
      refine iteT (iteT ?_)
      refine ⟨_, rfl, r, rfl, R, fun HO u e bO RO dn t2 dp => ?_⟩
      exact q _ u e (b0.trans bO) RO dn (tm_mono (by omega) t2) (by omega)
    obtain ⟨xs, tz, qd⟩ := db_tup dv
    clear hz0 hd0 xs0
    have td : ds.length ≤ n ∧ tms n ds = true := by simpa only [tm, Bool.and_eq_true, decide_eq_true_eq] using tmd
    have tmd := td.2
    have dl := td.1
    have xl := qd.len
    have dD : PyData.depthAll ds + 1 ≤ k := dk
    have up : ∀ p ∈ ds, tm (n + 1) p = true ∧ p.depth ≤ PyData.depthAll ds + 1 := fun p hp => ⟨tm_mono (by omega) (tms_mem tmd hp), by have := dep_mem hp; omega⟩
    have fin : ∀ {H' : Hp} {u : V} {e : PyData}, Db K r H' u e → But r H H' → Rng H' r → (tm (n + 1) e = true ∧ e.depth ≤ PyData.depthAll ds + 1 + 1) → Q u H' := fun a b c z => q _ _ _ b c a z.1 z.2
    clear td dv
    refine ⟨_, rfl, _, _, _, _, true, rfl, .ty "tuple", tz.ty, kit_ty (by decide +kernel), _, rfl, iteF ?_⟩
    refine ⟨_, rfl, (by show 0 ≤ sizeLine; decide), fun te oe ne se ze => ?_⟩
    generalize upd _ te oe = HE at se ze ⊢
    have tz := tz.same se
    have qd := qd.same se
    have R := R.same se
    have b0 := b0.trans (But.of se)
    refine ⟨ta, te, _, rfl, rfl, tz.sq, ze.sq, _, rfl, ?_⟩
    clear ze
    by_cases x0 : xs = []
    · subst x0
      refine iteT (iteT ?_)
      refine ⟨_, rfl, r, rfl, R, fun HO v d bO RO dn t2 dp => ?_⟩
      exact q _ v d (b0.trans bO) RO dn (tm_mono (by omega) t2) (by omega)
    have xe : xs.isEmpty = false := by
      cases xs with
      | nil => exact absurd rfl x0
      | cons _ _ => rfl
    have x1 : 0 < xs.length := List.length_pos_iff.mpr x0
    have eI : id xs.isEmpty = false := xe
    rw [eI]
    refine iteF ?_
    clear eI xe x0
    refine ⟨_, rfl, r, _, rfl, R, (by decide), (by decide), fun H2 e2 b2 R2 f2 g2 => ?_⟩
    have tz := tz.but R b2
    have qd := qd.but b2
    have b0 := b0.trans b2
    have R := R2
    refine ⟨rfl, _, rfl, ite2 (fun c0 => ?_) (fun c0 => ?_)⟩
    · skip
      refine ⟨_, rfl, r, rfl, R, fun HO v d bO RO dn t2 dp => ?_⟩
      exact q _ v d (b0.trans bO) RO dn (tm_mono (by omega) t2) (by omega)
    refine ⟨_, rfl, _, rfl, ta, _, rfl, .inr tz.sq, ?_⟩
    refine ⟨r, _, rfl, R, (by omega), (by omega), fun H3 e3 b3 R3 f3 g3 => ?_⟩
    have tz := tz.but R b3
    have qd := qd.but b3
    have b0 := b0.trans b3
    have R := R3
    obtain ⟨at_, rfl⟩ := Int.eq_ofNat_of_zero_le f3
    have al : at_ < xs.length := by omega
    refine ⟨_, rfl, r, _, rfl, R, (by decide), (by decide), fun H4 e4 b4 R4 f4 g4 => ?_⟩
    have tz := tz.but R b4
    have qd := qd.but b4
    have b0 := b0.trans b4
    have R := R4
    refine ⟨_, _, rfl, ?_⟩
    obtain ⟨av, hav⟩ : ∃ y, xs[at_]? = some y := ⟨_, List.getElem?_eq_getElem al⟩
    obtain ⟨ad, had, adn⟩ := qd.get hav
    have adm : ad ∈ ds := List.mem_of_getElem? had
    refine ⟨_, rfl, rfl, _, rfl, ite2 (fun c1 => ?_) (fun c1 => ?_)⟩
    · skip
      refine ⟨_, rfl, _, rfl, _, rfl, ta, _, rfl, tz, And.symm (rcut_of tz (cut_take xs at_) fun t5 H5 s5 z5 => ?_)⟩
      have tz := tz.same s5
      have qd := qd.same s5
      have R := R.same s5
      have b0 := b0.trans (But.of s5)
      have adn := adn.same s5
      refine ⟨_, rfl, _, rfl, _, _, rfl, rfl, _, rfl, ta, _, rfl, tz, And.symm (rcut_of tz (cut_dropI xs at_) fun t6 H6 s6 z6 => ?_)⟩
      have tz := tz.same s6
      have qd := qd.same s6
      have R := R.same s6
      have b0 := b0.trans (But.of s6)
      have adn := adn.same s6
      have z5 := z5.same s6
      refine ⟨t5, t6, _, _, rfl, rfl, z5, z6, (by simp only [List.length_append, List.length_take, List.length_drop, List.length_cons, List.length_nil]; exact le200 (by omega)), rot3 (sum_of z5 z6 fun t7 H7 s7 z7 => ?_)⟩
      have tz := tz.same s7
      have qd := qd.same s7
      have R := R.same s7
      have b0 := b0.trans (But.of s7)
      have adn := adn.same s7
      have z5 := z5.same s7
      have z6 := z6.same s7
      exact fin (.tup R z7 ((qd.take at_).app (qd.drop (at_ + 1)))) b0 R (tm_tup (mem2 (fun p hp => up p (List.mem_of_mem_take hp)) (fun p hp => up p (List.mem_of_mem_drop hp))) (by rw [List.length_append, List.length_take, List.length_drop]; omega))
    refine ⟨_, rfl, rfl, _, rfl, ite2 (fun c2 => ?_) (fun c2 => ?_)⟩
    · skip
      refine ⟨_, rfl, _, rfl, _, rfl, ta, _, rfl, tz, And.symm (rcut_of tz (cut_take xs at_) fun t8 H8 s8 z8 => ?_)⟩
      have tz := tz.same s8
      have qd := qd.same s8
      have R := R.same s8
      have b0 := b0.trans (But.of s8)
      have adn := adn.same s8
      refine ⟨_, rfl, _, rfl, _, rfl, _, rfl, _, _, rfl, rfl, _, rfl, ta, _, rfl, tz, And.symm (rcut_of tz (cut_mid xs at_) fun t9 H9 s9 z9 => ?_)⟩
      have tz := tz.same s9
      have qd := qd.same s9
      have R := R.same s9
      have b0 := b0.trans (But.of s9)
      have adn := adn.same s9
      have z8 := z8.same s9
      refine ⟨t8, t9, _, _, rfl, rfl, z8, z9, (by simp only [List.length_append, List.length_take, List.length_drop, List.length_cons, List.length_nil]; exact le200 (by omega)), rot3 (sum_of z8 z9 fun t10 H10 s10 z10 => ?_)⟩
      have tz := tz.same s10
      have qd := qd.same s10
      have R := R.same s10
      have b0 := b0.trans (But.of s10)
      have adn := adn.same s10
      have z8 := z8.same s10
      have z9 := z9.same s10
      refine ⟨_, rfl, _, rfl, _, rfl, ta, _, rfl, tz, And.symm (rcut_of tz (cut_drop xs at_) fun t11 H11 s11 z11 => ?_)⟩
      have tz := tz.same s11
      have qd := qd.same s11
      have R := R.same s11
      have b0 := b0.trans (But.of s11)
      have adn := adn.same s11
      have z10 := z10.same s11
      refine ⟨t10, t11, _, _, rfl, rfl, z10, z11, (by simp only [List.length_append, List.length_take, List.length_drop, List.length_cons, List.length_nil]; exact le200 (by omega)), rot3 (sum_of z10 z11 fun t12 H12 s12 z12 => ?_)⟩
      have tz := tz.same s12
      have qd := qd.same s12
      have R := R.same s12
      have b0 := b0.trans (But.of s12)
      have adn := adn.same s12
      have z10 := z10.same s12
      have z11 := z11.same s12
      exact fin (.tup R z12 (((qd.take at_).app ((qd.drop at_).take 1)).app (qd.drop at_))) b0 R (tm_tup (mem2 (mem2 (fun p hp => up p (List.mem_of_mem_take hp)) (fun p hp => up p (List.mem_of_mem_drop (List.mem_of_mem_take hp)))) (fun p hp => up p (List.mem_of_mem_drop hp))) (by simp only [List.length_append, List.length_take, List.length_drop]; omega))
    refine ⟨_, rfl, rfl, _, rfl, ite2 (fun c3 => ?_) (fun c3 => ?_)⟩
    · skip
      refine ⟨_, rfl, ta, _, rfl, .inr tz.sq, fun l13 n13 => ?_⟩
      have ne13 := R.ne n13
      generalize hg : upd _ l13 _ = H13
      obtain ⟨s13, gl⟩ := upd_new hg n13
      clear hg
      have tz := tz.same s13
      have qd := qd.same s13
      have R := R.same s13
      have b0 := b0.trans (But.of s13)
      have adn := adn.same s13
      exact fin (.lst ne13 gl qd) b0 R (tm_lst up (by omega))
    refine ⟨_, rfl, rfl, _, rfl, ite2 (fun c4 => ?_) (fun c4 => ?_)⟩
    · skip
      refine ⟨_, rfl, ta, _, rfl, tz.sq, fun t14 o14 n14 s14 z14 => ?_⟩
      generalize upd _ t14 o14 = H14 at s14 z14 ⊢
      have tz := tz.same s14
      have qd := qd.same s14
      have R := R.same s14
      have b0 := b0.trans (But.of s14)
      have adn := adn.same s14
      exact fin (.tup R z14 qd.rev) b0 R (tm_tup (fun p hp => up p (List.mem_reverse.mp hp)) (by rw [List.length_reverse]; omega))
    refine ⟨_, rfl, rfl, _, rfl, ite2 (fun c5 => ?_) (fun c5 => ?_)⟩
    · skip
      obtain ⟨y0, hy0⟩ : ∃ y, xs[0]? = some y := ⟨_, List.getElem?_eq_getElem x1⟩
      obtain ⟨d0, hd0, dn0⟩ := qd.get hy0
      have m0 : d0 ∈ ds := List.mem_of_getElem? hd0
      refine ⟨_, rfl, _, rfl, ta, _, rfl, .inr tz.sq, ?_⟩
      refine ⟨_, rfl, ta, _, 0, y0, rfl, rfl, tz.sq, atI_nat (j := 0) hy0, ?_⟩
      refine ⟨(by show 7 ≤ sizeLine; decide), fun l15 n15 => ?_⟩
      have ne15 := R.ne n15
      generalize hg : upd _ l15 _ = H15
      obtain ⟨s15, g7⟩ := upd_new hg n15
      clear hg
      have tz := tz.same s15
      have qd := qd.same s15
      have R := R.same s15
      have b0 := b0.trans (But.of s15)
      have adn := adn.same s15
      have dn0 := dn0.same s15
      refine ⟨_, rfl, r, _, rfl, R, (by decide), (by decide), fun H16 e16 b16 R16 f16 g16 => ?_⟩
      have tz := tz.but R b16
      have qd := qd.but b16
      have b0 := b0.trans b16
      have adn := adn.but b16
      have dn0 := dn0.but b16
      have g7 := b16 _ _ ne15 g7
      have R := R16
      obtain ⟨v, hv, mv⟩ := at_inL g7 rfl f16 g16
      refine ⟨l15, _, _, v, rfl, rfl, SqL.of g7, hv, ?_⟩
      have D : Dbs K r H16 [.bl true, .int (-1), .int (xs.length : Int), .int 99, .str "0", .str "zq", y0] [.bool true, .int (-1), .int (xs.length : Int), .int 99, .str "0", .str "zq", d0] := .cons (.bl _) (.cons (.int _) (.cons (.int _) (.cons (.int _) (.cons (.str _) (.cons (.str _) (.cons dn0 .nil))))))
      obtain ⟨d, md, dnd⟩ := D.mem mv
      have dk : tm (n + 1) d = true ∧ d.depth ≤ PyData.depthAll ds + 1 := by
        simp only [List.mem_cons, List.not_mem_nil, or_false] at md
        rcases md with rfl | rfl | rfl | rfl | rfl | rfl | rfl
        · exact ⟨rfl, Nat.zero_le _⟩
        · exact ⟨(show decide ((-1 : Int).natAbs < 1000) = true by decide), Nat.zero_le _⟩
        · exact ⟨decide_eq_true (by omega), Nat.zero_le _⟩
        · exact ⟨(show decide ((99 : Int).natAbs < 1000) = true by decide), Nat.zero_le _⟩
        · exact ⟨(show (decide (("0" : Str).length ≤ 12) && PyData.strOk "0") = true by decide +kernel), Nat.zero_le _⟩
        · exact ⟨(show (decide (("zq" : Str).length ≤ 12) && PyData.strOk "zq") = true by decide +kernel), Nat.zero_le _⟩
        · exact up _ m0
      clear mv hv g7 D
      refine ⟨_, rfl, _, rfl, _, rfl, ta, _, rfl, tz, And.symm (rcut_of tz (cut_take xs at_) fun t17 H17 s17 z17 => ?_)⟩
      have tz := tz.same s17
      have qd := qd.same s17
      have R := R.same s17
      have b0 := b0.trans (But.of s17)
      have adn := adn.same s17
      have dn0 := dn0.same s17
      have dnd := dnd.same s17
      refine ⟨_, rfl, (by show 1 ≤ sizeLine; decide), fun t18 o18 n18 s18 z18 => ?_⟩
      generalize upd _ t18 o18 = H18 at s18 z18 ⊢
      have tz := tz.same s18
      have qd := qd.same s18
      have R := R.same s18
      have b0 := b0.trans (But.of s18)
      have adn := adn.same s18
      have dn0 := dn0.same s18
      have dnd := dnd.same s18
      have z17 := z17.same s18
      refine ⟨t17, t18, _, _, rfl, rfl, z17, z18, (by simp only [List.length_append, List.length_take, List.length_drop, List.length_cons, List.length_nil]; exact le200 (by omega)), rot3 (sum_of z17 z18 fun t19 H19 s19 z19 => ?_)⟩
      have tz := tz.same s19
      have qd := qd.same s19
      have R := R.same s19
      have b0 := b0.trans (But.of s19)
      have adn := adn.same s19
      have dn0 := dn0.same s19
      have dnd := dnd.same s19
      have z17 := z17.same s19
      have z18 := z18.same s19
      refine ⟨_, rfl, _, rfl, _, _, rfl, rfl, _, rfl, ta, _, rfl, tz, And.symm (rcut_of tz (cut_dropI xs at_) fun t20 H20 s20 z20 => ?_)⟩
      have tz := tz.same s20
      have qd := qd.same s20
      have R := R.same s20
      have b0 := b0.trans (But.of s20)
      have adn := adn.same s20
      have dn0 := dn0.same s20
      have dnd := dnd.same s20
      have z19 := z19.same s20
      refine ⟨t19, t20, _, _, rfl, rfl, z19, z20, (by simp only [List.length_append, List.length_take, List.length_drop, List.length_cons, List.length_nil]; exact le200 (by omega)), rot3 (sum_of z19 z20 fun t21 H21 s21 z21 => ?_)⟩
      have tz := tz.same s21
      have qd := qd.same s21
      have R := R.same s21
      have b0 := b0.trans (But.of s21)
      have adn := adn.same s21
      have dn0 := dn0.same s21
      have dnd := dnd.same s21
      have z19 := z19.same s21
      have z20 := z20.same s21
      exact fin (.tup R z21 (((qd.take at_).app (.cons dnd .nil)).app (qd.drop (at_ + 1)))) b0 R (tm_tup (mem2 (mem2 (fun p hp => up p (List.mem_of_mem_take hp)) (fun p hp => by rw [List.mem_singleton.mp hp]; exact dk)) (fun p hp => up p (List.mem_of_mem_drop hp))) (by simp only [List.length_append, List.length_take, List.length_drop, List.length_cons, List.length_nil]; omega))
    refine ⟨_, rfl, _, rfl, _, rfl, ta, _, rfl, tz, And.symm (rcut_of tz (cut_take xs at_) fun t22 H22 s22 z22 => ?_)⟩
    have tz := tz.same s22
    have qd := qd.same s22
    have R := R.same s22
    have b0 := b0.trans (But.of s22)
    have adn := adn.same s22
    refine ⟨_, rfl, _, rfl, _, rfl, ta, _, _, av, rfl, rfl, tz.sq, atI_nat (j := at_) hav, ?_⟩
    obtain ⟨k', rfl⟩ : ∃ k', k = k' + 1 := ⟨k - 1, by omega⟩
    refine ⟨r, av, ad, n, rfl, R, adn, tms_mem tmd adm, n12, n13, ?_, fun HS v d bS RS dnd t1 dp1 => ?_⟩
    · have := dep_mem adm
      omega
    have tz := tz.but R bS
    have qd := qd.but bS
    have b0 := b0.trans bS
    have z22 := z22.but R bS
    have R := RS
    have dk : tm (n + 1) d = true ∧ d.depth ≤ PyData.depthAll ds + 1 := ⟨t1, by have := dep_mem adm; omega⟩
    refine ⟨(by show 1 ≤ sizeLine; decide), fun t23 o23 n23 s23 z23 => ?_⟩
    generalize upd _ t23 o23 = H23 at s23 z23 ⊢
    have tz := tz.same s23
    have qd := qd.same s23
    have R := R.same s23
    have b0 := b0.trans (But.of s23)
    have z22 := z22.same s23
    have dnd := dnd.same s23
    refine ⟨t22, t23, _, _, rfl, rfl, z22, z23, (by simp only [List.length_append, List.length_take, List.length_drop, List.length_cons, List.length_nil]; exact le200 (by omega)), rot3 (sum_of z22 z23 fun t24 H24 s24 z24 => ?_)⟩
    have tz := tz.same s24
    have qd := qd.same s24
    have R := R.same s24
    have b0 := b0.trans (But.of s24)
    have z22 := z22.same s24
    have dnd := dnd.same s24
    have z23 := z23.same s24
    refine ⟨_, rfl, _, rfl, _, _, rfl, rfl, _, rfl, ta, _, rfl, tz, And.symm (rcut_of tz (cut_dropI xs at_) fun t25 H25 s25 z25 => ?_)⟩
    have tz := tz.same s25
    have qd := qd.same s25
    have R := R.same s25
    have b0 := b0.trans (But.of s25)
    have dnd := dnd.same s25
    have z24 := z24.same s25
    refine ⟨t24, t25, _, _, rfl, rfl, z24, z25, (by simp only [List.length_append, List.length_take, List.length_drop, List.length_cons, List.length_nil]; exact le200 (by omega)), rot3 (sum_of z24 z25 fun t26 H26 s26 z26 => ?_)⟩
    have tz := tz.same s26
    have qd := qd.same s26
    have R := R.same s26
    have b0 := b0.trans (But.of s26)
    have dnd := dnd.same s26
    have z24 := z24.same s26
    have z25 := z25.same s26
    exact fin (.tup R z26 (((qd.take at_).app (.cons dnd .nil)).app (qd.drop (at_ + 1)))) b0 R (tm_tup (mem2 (mem2 (fun p hp => up p (List.mem_of_mem_take hp)) (fun p hp => by rw [List.mem_singleton.mp hp]; exact dk)) (fun p hp => up p (List.mem_of_mem_drop hp))) (by simp only [List.length_append, List.length_take, List.length_drop, List.length_cons, List.length_nil]; omega))
end
end My

namespace My
open PySem PySem.Spec PyProof.Rows L2 Gy Xl Xs Xt
/-! ### the law's own checks -/
theorem let_mem (c : Nat) : decide (c ∈ LET.cps.toList) = (decide (97 ≤ c) && decide (c ≤ 122)) := by
  have e : LET.cps.toList = [97, 98, 99, 100, 101, 102, 103, 104, 105, 106, 107, 108, 109, 110, 111, 112, 113, 114, 115, 116, 117, 118, 119, 120, 121, 122] := by decide +kernel
  rw [e, ← Bool.decide_and]
  congr 1
  simp only [List.mem_cons, List.not_mem_nil, or_false, eq_iff_iff]
  omega
theorem lt1 (a b : Nat) : decide (([a] : List Nat) < [b]) = decide (a < b) := by
  congr 1
  simp [List.cons_lt_cons_iff]
theorem ge_sign (k : Nat) (x : Str) (hx : x.cps.toList = [k]) (c : Nat) : (!decide ((⟨#[c]⟩ : Str).cps.toList < x.cps.toList)) = decide (k ≤ c) := by
  rw [hx, show (⟨#[c]⟩ : Str).cps.toList = [c] from rfl, lt1, ← decide_not]
  congr 1
  simp only [Nat.not_lt]
theorem le_sign (k : Nat) (x : Str) (hx : x.cps.toList = [k]) (c : Nat) : (!decide (x.cps.toList < (⟨#[c]⟩ : Str).cps.toList)) = decide (c ≤ k) := by
  rw [hx, show (⟨#[c]⟩ : Str).cps.toList = [c] from rfl, lt1, ← decide_not]
  congr 1
  simp only [Nat.not_lt]
section
variable {P : Program} {w : World} {K : PySem.W.Frag} {mg : Str → Option Value} {base : Heap} {H : Hp}
def spIsName (K : PySem.W.Frag) : Sp := fun vs H Q _ => ∃ (v : V) (d : PyData), vs = [v] ∧ Dn K H v d ∧ sml d = true ∧ ∀ H', Same H H' → Q (.bl (isHost d)) H'
theorem ok_isName {f : Addr} {fd : FuncData} (F : Fun K "_law_is_name" "_law_is_name" s_law_is_name f fd) (Y : Bn mg) : FnOk P w K mg base CX0 1 f fd ["_law_value"] (spIsName K) := by
  refine F.ok sc_law_is_name (fun vs H Q E h => ?_) (fun cdv A outer s H vs Q E hr h => ?_)
  · obtain ⟨v, d, rfl, _⟩ := h
    rfl
  · obtain ⟨v, d, rfl, dn, sm, q⟩ := h
    refine ⟨_, (pss_cons (ps_if (PW.pt (pw_or (pt_not (pt_val (pe_callB call_isi (by rfl) Y.isinstance (by decide +kernel) (pa_cons (pv 0) (pa_cons (pe_bltn (v := .ty "str") (by rfl) Y.str (by decide +kernel) rfl) pa_nil))))) (pw_or1 (pt_not (pt_chain op_le op_le pe_int (pe_callB call_len_str (by rfl) Y.len PySem.boot_len (pa_cons (pv 0) pa_nil)) pe_int)))))
 (pss_one (ps_ret pe_bl))
 pss_nil)
 (pss_one (ps_ret (pe_callB (cr_all rfl) (by rfl) Y.all (by decide +kernel) (pa_cons (pe_lc (own := [("_law_sign", 1)]) (g := gName 1) (tt := tYes) rfl sc_law_is_name.nd (pi_str (pv 0)) (blkOk_by (N := ["_law_value", "_law_sign"]) (sc := defScope s_law_is_name) (by decide +kernel)) (fun _ _ _ _ _ => (pg_name (i := 1) sc_law_is_name.nd rfl (Or.inl rfl))) (fun _ _ _ _ _ => pts_nil) (fun _ _ _ _ _ => (pe_chain op_le_str op_le_str pe_str (pv 1) pe_str))) pa_nil))))), ?_⟩
    have kd := kd_dn dn sm
    rw [← host_dn dn] at q
    cases kd with
    | oth ty no nos =>
      refine ⟨v, rfl, v, _, _, _, false, rfl, .ty "str", ty, kit_ty no, _, rfl, ?_⟩
      refine iteT (iteT ?_)
      rw [textOf_oth nos] at q
      exact q _ (Same.refl _)
    | str x hx =>
      refine ⟨_, rfl, _, _, _, _, true, rfl, .ty "str", .base (.str x), kit_ty (by decide +kernel), _, rfl, ?_⟩
      refine iteF ?_
      have e1 : textOf (.str x) LET 8 = (decide ((1 : Int) ≤ (x.length : Int)) && decide ((x.length : Int) ≤ 8) && allIn LET x) := rfl
      refine ⟨_, rfl, _, rfl, hx, 1, _, rfl, rfl, _, rfl, ?_⟩
      refine ite2 (fun c1 => ?_) (fun c1 => ?_)
      · refine ⟨_, _, rfl, rfl, _, rfl, ?_⟩
        cases c2 : decide ((x.length : Int) ≤ 8) with
        | false =>
          refine iteT ?_
          rw [c2, Bool.and_false, Bool.false_and] at e1
          rw [e1] at q
          exact q _ (Same.refl _)
        | true =>
          refine iteF ?_
          rw [c1, c2, Bool.true_and, Bool.true_and] at e1
          refine ⟨_, rfl, x, rfl, fun D hD => ?_⟩
          refine lc_it (walk_str (z := x)) (fun i H' => Same H H' ∧ H' D = some (.lst (((x.cps.toList.take i).map fun c => decide (c ∈ (LET).cps.toList)).map V.bl)))
            ⟨same_upd hD, upd_same⟩ (fun _ _ _ _ => trivial) ?_ ?_
          · rintro i y H1 H2 hi ⟨sm, hL⟩ ⟨rfl, c, hc, rfl⟩
            have hc' : x.cps.toList[i]? = some c := by rw [Array.getElem?_toList]; exact hc
            have fin : ∀ b : Bool, decide (c ∈ LET.cps.toList) = b → ∃ zs, H2 D = some (.lst zs) ∧ zs.length < sizeLine ∧ Same H (upd H2 D (.lst (zs ++ [V.bl b]))) ∧ (upd H2 D (.lst (zs ++ [V.bl b]))) D = some (.lst (((x.cps.toList.take (i + 1)).map fun c => decide (c ∈ (LET).cps.toList)).map V.bl)) := fun b hb => by
              refine ⟨_, hL, ?_, same_upd2 sm hD, ?_⟩
              · rw [List.length_map, List.length_map, List.length_take]
                refine Nat.lt_of_le_of_lt (Nat.min_le_left _ _) (Nat.lt_of_lt_of_le hi ?_)
                exact hx
              · rw [upd_same, take_succ_all hc', List.map_append, ← hb]
                rfl
            refine ⟨rfl, ?_⟩
            dsimp only [tYes]
            refine iteT ?_
            have lm := let_mem c
            refine ⟨_, rfl, _, _, rfl, rfl, _, rfl, ite2 (fun c3 => ?_) (fun c3 => ?_)⟩
            · have c3' := (ge_sign 97 "a" (by decide +kernel) c).symm.trans c3
              rw [c3', Bool.true_and] at lm
              refine ⟨_, _, rfl, rfl, ?_⟩
              exact fin _ (lm.trans (le_sign 122 "z" (by decide +kernel) c).symm)
            · have c3' : decide (97 ≤ c) = false := (ge_sign 97 "a" (by decide +kernel) c).symm.trans (Bool.eq_false_iff.mpr c3)
              rw [c3', Bool.false_and] at lm
              exact fin false lm
          · rintro H1 ⟨sm, hL⟩
            refine ⟨D, _, rfl, SqL.of hL, ?_⟩
            have e2 : ((x.cps.toList.take x.cps.size).map fun c => decide (c ∈ (LET).cps.toList)).all id = allIn LET x := by
              rw [List.take_of_length_le (by rw [Array.length_toList]; exact Nat.le_refl _), List.all_map]
              rfl
            rw [e1] at q
            show Q (.bl (((x.cps.toList.take x.cps.size).map fun c => decide (c ∈ (LET).cps.toList)).all id)) H1
            rw [e2]
            exact q _ sm
      · refine ⟨_, rfl, ?_⟩
        refine iteT ?_
        have c1' : decide ((1 : Int) ≤ (x.length : Int)) = false := by
          cases z : decide ((1 : Int) ≤ (x.length : Int)) with
          | false => rfl
          | true => exact absurd z c1
        rw [c1', Bool.false_and, Bool.false_and] at e1
        rw [e1] at q
        exact q _ (Same.refl _)
theorem ok_isRight {f : Addr} {fd : FuncData} (F : Fun K "_law_is_right" "_law_is_right" s_law_is_right f fd) (Y : Bn mg) (G_law_is_name : Fk P w K mg base CX0 1 "_law_is_name" ["_law_value"] (spIsName K)) : FnOk P w K mg base CX0 2 f fd ["_law_value"] (spRel K) := by
  refine F.ok sc_law_is_right (fun vs H Q E h => ?_) (fun cdv A outer s H vs Q E hr h => ?_)
  · obtain ⟨v, d, rfl, _⟩ := h
    rfl
  · obtain ⟨v, d, rfl, dn, sm, q⟩ := h
    refine ⟨_, (pss_cons (ps_if (PW.pt (pw_or (pt_not (pt_val (pe_callB call_isi (by rfl) Y.isinstance (by decide +kernel) (pa_cons (pv 0) (pa_cons (pe_bltn (v := .ty "tuple") (by rfl) Y.tuple (by decide +kernel) rfl) pa_nil))))) (pw_or (pt_cmpR op_ne (pe_callB call_len_seq (by rfl) Y.len PySem.boot_len (pa_cons (pv 0) pa_nil)) pe_int (nomark _)) (pw_or1 (pt_not (pt_val (pe_callB call_isi (by rfl) Y.isinstance (by decide +kernel) (pa_cons (pe_ix ix_tup (pv 0) pe_int (fun _ _ => rfl)) (pa_cons (pe_bltn (v := .ty "tuple") (by rfl) Y.tuple (by decide +kernel) rfl) pa_nil)))))))))
 (pss_one (ps_ret pe_bl))
 pss_nil)
 (pss_cons (ps_asg (pv 0) (pg_tup (by rfl) (pgs_cons (pg_name (i := 1) sc_law_is_right.nd rfl (Or.inl rfl)) (pgs_cons (pg_name (i := 2) sc_law_is_right.nd rfl (Or.inl rfl)) pgs_nil))))
 (pss_cons (ps_if (PW.pt (pw_or (pt_cmpR op_lt (pe_callB call_len_seq (by rfl) Y.len PySem.boot_len (pa_cons (pv 1) pa_nil)) pe_int (nomark _)) (pw_or (pt_not (pt_val (pe_callB (cr_all rfl) (by rfl) Y.all (by decide +kernel) (pa_cons (pe_lc (own := [("_law_name", 3)]) (g := gName 3) (tt := tYes) rfl sc_law_is_right.nd (pi_tup (pv 1)) (blkOk_by (N := ["_law_value", "_law_way", "_law_at", "_law_name"]) (sc := defScope s_law_is_right) (by decide +kernel)) (fun _ _ _ _ _ => (pg_name (i := 3) sc_law_is_right.nd rfl (Or.inl rfl))) (fun _ _ _ _ _ => pts_nil) (fun _ _ _ _ _ => (pe_callF G_law_is_name (hr.mono (by decide)) (by rfl) pass0 (pa_cons (pv 3) pa_nil)))) pa_nil)))) (pw_or1 (pt_cmpR op_ne (pe_lenTexts (by rfl) Y.len (by rfl) Y.set (pv 1)) (pe_callB call_len_seq (by rfl) Y.len PySem.boot_len (pa_cons (pv 1) pa_nil)) (nomark _))))))
 (pss_one (ps_ret pe_bl))
 pss_nil)
 (pss_one (ps_ret (pe_and (pe_callB call_isi (by rfl) Y.isinstance (by decide +kernel) (pa_cons (pv 2) (pa_cons (pe_bltn (v := .ty "int") (by rfl) Y.int (by decide +kernel) rfl) pa_nil))) (pe_and (pe_not (pe_callB call_isi (by rfl) Y.isinstance (by decide +kernel) (pa_cons (pv 2) (pa_cons (pe_bltn (v := .ty "bool") (by rfl) Y.bool (by decide +kernel) rfl) pa_nil)))) (pe_one (pe_chain op_le op_le pe_int (pv 2) (pe_op op_sub (pe_callB call_len_seq (by rfl) Y.len PySem.boot_len (pa_cons (pv 1) pa_nil)) pe_int)))))))))), ?_⟩
    rcases tup_or dn with ⟨a, xs, ds, rfl, rfl, ha, hd⟩ | ⟨no, t, ty, kt⟩
    case' inr =>
      refine ⟨v, rfl, v, _, _, _, false, rfl, .ty "tuple", ty, kit_ty kt, _, rfl, ?_⟩
      refine iteT (iteT ?_)
      have z : isRel d = false := by
        cases d with
        | tuple ds => exact absurd rfl (no ds)
        | _ => rfl
      rw [z] at q
      exact q _ (Same.refl _)
    have sm2 : ds.length ≤ 14 ∧ smls ds = true := by simpa only [sml, Bool.and_eq_true, decide_eq_true_eq] using sm
    have el := Dns.len hd
    refine ⟨_, rfl, _, _, _, _, true, rfl, .ty "tuple", ha.ty, kit_ty (by decide +kernel), _, rfl, iteF ?_⟩
    refine ⟨_, rfl, a, _, rfl, .inr (ha.sq), rfl, _, rfl, ite2 (fun c => ?_) (fun c => ?_)⟩
    · have c' : ds.length ≠ 2 := fun z => by
        rw [decide_eq_true (show V.int (xs.length : Int) = V.int 2 by rw [el, z]; rfl)] at c
        cases c
      rw [isRel_n c'] at q
      exact iteT (q _ (Same.refl _))
    have c' : xs.length = 2 := by
      have z : V.int (xs.length : Int) = V.int 2 := Decidable.of_not_not fun z => c (by rw [decide_eq_false z]; rfl)
      injection z with z
      omega
    obtain ⟨p, c0, rfl⟩ : ∃ p c0, xs = [p, c0] := by
      match xs, c' with
      | [p, c0], _ => exact ⟨p, c0, rfl⟩
    cases hd with
    | @cons _ _ dp _ h1 hd =>
    cases hd with
    | @cons _ _ dc _ h2 hd =>
    cases hd
    have m1 : sml dp = true := smls_mem sm2.2 List.mem_cons_self
    rw [isRel_2] at q
    rcases tup_or h1 with ⟨b, ys, es, rfl, rfl, hb, hes⟩ | ⟨no, t, ty, kt⟩
    case' inr =>
      refine ⟨_, rfl, a, _, 0, p, rfl, rfl, ha.sq, atI_nat (j := 0) rfl, p, _, _, _, false, rfl, .ty "tuple", ty, kit_ty kt, _, rfl, iteT ?_⟩
      have z : isPath dp = false := by
        cases dp with
        | tuple es => exact absurd rfl (no es)
        | _ => rfl
      rw [z, Bool.false_and] at q
      exact q _ (Same.refl _)
    refine ⟨_, rfl, a, _, 0, .ref b, rfl, rfl, ha.sq, atI_nat (j := 0) rfl, _, _, _, _, true, rfl, .ty "tuple", hb.ty, kit_ty (by decide +kernel), _, rfl, iteF ?_⟩
    have sm3 : es.length ≤ 14 ∧ smls es = true := by simpa only [sml, Bool.and_eq_true, decide_eq_true_eq] using m1
    have el2 := Dns.len hes
    have q : ∀ H', Same H H' → Q (.bl (isPath (.tuple es) && isIdx ((es.length : Int) - 1) dc)) H' := q
    rw [isPath_t] at q
    refine ⟨_, rfl, a, _, rfl, ha.sq, rfl, _, _, rfl, _, _, rfl, rfl, ?_⟩
    refine ⟨_, rfl, b, _, rfl, .inr hb.sq, _, 3, rfl, rfl, _, rfl, ite2 (fun c => ?_) (fun c => ?_)⟩
    · have c' := of_decide_eq_true c
      rw [decide_eq_false (show ¬ 3 ≤ es.length by omega), Bool.false_and, Bool.false_and] at q
      exact iteT (q _ (Same.refl _))
    have c3 : ¬ (ys.length : Int) < 3 := fun z => c (decide_eq_true z)
    rw [decide_eq_true (show 3 ≤ es.length by omega), Bool.true_and] at q
    refine ⟨_, rfl, b, rfl, ⟨_, hb.sq⟩, fun D hD => ?_⟩
    refine lc_it (walk_tup (K := K) (a := b) (xs := ys)) (fun i H' => Same H H' ∧ H' D = some (.lst (((es.take i).map isHost).map V.bl))) ⟨same_upd hD, upd_same⟩ (fun i H' _ h => (hb.same h.1).sq) ?_ ?_
    · rintro i y H1 H2 hi ⟨s1, hL⟩ ⟨rfl, hy⟩
      obtain ⟨di, hdi, dni⟩ := Dns.get hes hy
      refine ⟨rfl, ?_⟩
      dsimp only [tYes]
      refine iteT ?_
      refine ⟨_, rfl, y, di, rfl, dni.same s1, smls_mem sm3.2 (List.mem_of_getElem? hdi), fun H3 s3 => ?_⟩
      refine ⟨_, s3 _ _ hL, ?_, same_upd2 (s1.trans s3) hD, ?_⟩
      · rw [List.length_map, List.length_map, List.length_take]
        exact small200 (by omega)
      · rw [upd_same, List.take_add_one, hdi, List.map_append, List.map_append]
        rfl
    · rintro H1 ⟨s1, hL⟩
      rw [el2, List.take_of_length_le (Nat.le_refl _)] at hL
      have hb1 := hb.same s1
      refine ⟨D, _, rfl, SqL.of hL, _, rfl, ?_⟩
      cases c1 : es.all isHost with
      | false =>
        rw [c1, Bool.false_and, Bool.false_and] at q
        have z : id (((es.map isHost).all id)) = false := by
          rw [List.all_map]
          exact c1
        rw [show ((es.map isHost).all id) = false from z]
        exact iteT (iteT (q _ s1))
      | true =>
        rw [c1, Bool.true_and] at q
        have z : ((es.map isHost).all id) = true := by
          rw [List.all_map]
          exact c1
        rw [z]
        refine iteF ?_
        have e := txts_all c1
        have ex : ys = (txts es).map V.str := by
          rw [e] at hes
          exact Dns.txts hes
        have el3 : ys.length = (txts es).length := by rw [ex, List.length_map]
        refine ⟨_, rfl, b, txts es, rfl, (by rw [← ex]; exact hb1.sq), (by omega), _, rfl, b, _, rfl, .inr (hb1.sq), rfl, _, rfl, ?_⟩
        have zz : decide ((txts es).Nodup) = decide (V.int ((numd (txts es) (txts es).length : Nat) : Int) = V.int (ys.length : Int)) := by
          congr 1
          have nf := numd_full (txts es) (txts es).length (Nat.le_refl _)
          rw [List.take_of_length_le (Nat.le_refl _)] at nf
          rw [← nf, eq_iff_iff, el3]
          refine ⟨fun z => by rw [z], fun z => ?_⟩
          injection z with z
          omega
        rw [zz] at q
        refine ite2 (fun c4 => ?_) (fun c4 => ?_)
        · have c5 : decide (V.int ((numd (txts es) (txts es).length : Nat) : Int) = V.int (ys.length : Int)) = false := by
            cases z9 : decide (V.int ((numd (txts es) (txts es).length : Nat) : Int) = V.int (ys.length : Int)) with
            | false => rfl
            | true => rw [z9] at c4; cases c4
          rw [c5, Bool.false_and] at q
          exact q _ s1
        have c5 : decide (V.int ((numd (txts es) (txts es).length : Nat) : Int) = V.int (ys.length : Int)) = true := by
          cases z9 : decide (V.int ((numd (txts es) (txts es).length : Nat) : Int) = V.int (ys.length : Int)) with
          | true => rfl
          | false => exact absurd (by rw [z9]; rfl) c4
        rw [c5, Bool.true_and] at q
        have h2' := h2.same s1
        rcases int_or h2' with ⟨i, rfl, rfl⟩ | ⟨bb, rfl, rfl⟩ | ⟨no, t, ty, kt⟩
        · rw [isIdx_i] at q
          refine ⟨_, rfl, _, _, _, _, true, rfl, .ty "int", .base (.int i), kit_ty (by decide +kernel), _, rfl, iteT ?_⟩
          refine ⟨_, rfl, _, _, _, _, false, rfl, .ty "bool", .base (.int i), kit_ty (by decide +kernel), _, rfl, _, rfl, iteT ?_⟩
          refine ⟨_, rfl, _, _, rfl, rfl, _, rfl, ite2 (fun c6 => ?_) (fun c6 => ?_)⟩
          · rw [c6, Bool.true_and] at q
            refine ⟨_, rfl, b, _, rfl, .inr hb1.sq, _, _, rfl, rfl, _, _, rfl, rfl, ?_⟩
            have ee : decide (i < (es.length : Int) - 1) = decide (i ≤ (ys.length : Int) - 2) := by
              congr 1
              rw [eq_iff_iff]
              omega
            rw [ee] at q
            exact q _ s1
          · rw [Bool.eq_false_iff.mpr c6, Bool.false_and] at q
            exact q _ s1
        · refine ⟨_, rfl, _, _, _, _, true, rfl, .ty "int", .base (.bl bb), kit_ty (by decide +kernel), _, rfl, iteT ?_⟩
          refine ⟨_, rfl, _, _, _, _, true, rfl, .ty "bool", .base (.bl bb), kit_ty (by decide +kernel), _, rfl, _, rfl, iteF ?_⟩
          exact q _ s1
        · refine ⟨_, rfl, _, _, _, _, false, rfl, .ty "int", ty, kit_ty kt, _, rfl, iteF ?_⟩
          have z : isIdx ((es.length : Int) - 1) dc = false := by
            cases dc with
            | int i => exact absurd rfl (no i)
            | _ => rfl
          rw [z] at q
          exact q _ s1
end
end My

/-! An own exception of two fields raised; a call of what a subscript gives. -/
namespace Xl
open PySem PySem.Spec PyProof.Rows L2 Gy
def spI2 (C : Addr) (f1 f2 : Str) : Sp := fun vs H Q _ => ∃ (a : Addr) (v1 v2 : V), vs = [.ref a, v1, v2] ∧ H a = some (exo a C none) ∧
  ∀ dx, H dx = none → dx ≠ a → Q .non (upd (upd (upd H dx (exd dx [(f1, v1)])) a (exo a C (some dx))) dx (exd dx [(f2, v2), (f1, v1)]))
theorem del_made2 {H : Hp} {a dx C : Addr} {f1 f2 : Str} {v1 v2 : V} (n : H a = none) (ne : dx ≠ a) :
    upd (del (upd (upd (upd (upd H a (exo a C none)) dx (exd dx [(f1, v1)])) a (exo a C (some dx))) dx (exd dx [(f2, v2), (f1, v1)])) a) dx (.xd [(f2, v2), (f1, v1)]) = upd H dx (.xd [(f2, v2), (f1, v1)]) := by
  funext b
  by_cases h1 : b = dx
  · rw [h1, upd_same, upd_same]
  · rw [upd_ne h1, upd_ne h1]
    by_cases h2 : b = a
    · rw [h2, del_same, n]
    · rw [del_ne h2, upd_ne h1, upd_ne h2, upd_ne h1, upd_ne h2]
section
variable {X : Cx} {C fI : Addr} {fd : FuncData} {f1 f2 x : Str} {e e2 : Expr} {p pos : Pos}
/-- C(e, e2), to be raised -/
def tMk2 (C : Addr) (f1 f2 : Str) (t : TA) : L2.St → Hp → XK → Prop := fun σ H Q => t σ H fun vs H1 => ∃ v1 v2, vs = [v1, v2] ∧ ∀ d, H1 d = none → Q (.ref C) (some d) (upd H1 d (.xd [(f2, v2), (f1, v1)]))
theorem pmk_x2 {t : TA} (T : XIn X.K C fI) (ty : PySem.W.typeIn X.K (.ref C) = some (.type "type")) (F : FnOk X.prog X.w X.K X.mg X.base CX0 1 fI fd ["self", f1, f2] (spI2 C f1 f2)) (hr : Room 2 X.A)
    (hb : XB X.K fd ["self", f1, f2] [] (fun us _ => us) (fun vs _ => vs)) (hg : Gl X x) (hm : X.mg x = some (.ref C)) (ha : PA X [e, e2] t)
    (hdb : (x == ("__debug__" : Str)) = false := by decide) (hst : starEach [e, e2] X.env = (false, eval e X.env) :: starEach [e2] X.env := by rfl) (hpl : (backTo pos (starEach [e2] X.env)).any (·.1) = false := by rfl) :
    PMk X (.Call (.Name x p) [e, e2] [] pos) (tMk2 C f1 f2 t) := by
  intro pins s σ H Q I h
  refine wpAny_Call_Name_kw (ld_glob I hg hm ?_ hdb)
  refine PySem.W.callWith_K (h₀ := X.base) I.ok.mod.kin T.kp (thn (ha.run pos pins s σ H _ I h) ?_) hst hpl
  rintro us s1 ⟨vs, H1, I1, r1, v1, v2, rfl, q1⟩
  refine ⟨I1.kIn, ?_⟩
  show wpAny _ _ (call (.ref C) us) _ _ _
  obtain ⟨B, nI, iI, bmB, BF, _, ii, _⟩ := T.base
  obtain ⟨nm, N', qn, bs, bm, hdct, sn, sub, ab, col, dd, k0, k1, k2, k3, k5, cl, hT⟩ := PySem.W.excInit_of I1.kIn ii
  obtain ⟨hp, g', dr, tk', os⟩ := s1
  have big : hp.objs.size ≤ hp.objs.size + 1 := Nat.le_succ _
  have na : H1 (hp.objs.size + 1) = none := I1.hok.fresh big
  have keep : ∀ b o, hp.get? b = some o → ((hp.push (PySem.W.kdv_tup us)).push (PySem.PX.excO C hp.objs.size)).get? b = some o := fun b o e =>
    Heap.get?_push_of_some _ (Heap.get?_push_of_some _ e)
  have new : ((hp.push (PySem.W.kdv_tup us)).push (PySem.PX.excO C hp.objs.size)).get? (hp.objs.size + 1) = some (PySem.PX.excO C hp.objs.size) := by heap_get
  have I2 := I1.laid (t' := tk') (a := hp.objs.size + 1) (o := exo (hp.objs.size + 1) C none) keep big (exo_ok new)
  have r2 : Vals [V.ref (hp.objs.size + 1), v1, v2] (Value.ref (hp.objs.size + 1) :: us) := .cons rfl r1
  have hq : spI2 C f1 f2 [V.ref (hp.objs.size + 1), v1, v2] (upd H1 (hp.objs.size + 1) (exo (hp.objs.size + 1) C none))
      (fun r H2 => r = .non ∧ ∃ dx, dx ≠ hp.objs.size + 1 ∧ upd H1 (hp.objs.size + 1) (exo (hp.objs.size + 1) C none) dx = none ∧
        H2 = upd (upd (upd (upd H1 (hp.objs.size + 1) (exo (hp.objs.size + 1) C none)) dx (exd dx [(f1, v1)])) (hp.objs.size + 1) (exo (hp.objs.size + 1) C (some dx))) dx (exd dx [(f2, v2), (f1, v1)])) (fun _ _ _ => False) :=
    ⟨_, v1, v2, rfl, upd_same, fun dx nd ne => ⟨rfl, dx, ne, nd, rfl⟩⟩
  have bl := hb.to ⟨_, g', dr, tk', os⟩ (Value.ref (hp.objs.size + 1)) us [] I2.kIn (by rw [← r2.length]; rfl)
  refine wpAny_call (PySem.Xg.kw_call BF hT cl (PySem.W.looks_findIn I1.kIn T.ini) (fun self => PySem.W.bind_fn I1.kIn self T.tf) ?_ (codeAny_mono (F.run _ X.stack _ _ _ _ _ _ _ (hr.make C us []) (I2.env0.make C us []) bl r2 hq) ?_))
  · rw [← r1.length, sizeLine_eq]
    show 2 ≤ 16777216
    decide
  · rintro (er | (_ | _ | _ | u)) s' z
    · exact (show False from z).elim
    · exact z.elim
    · exact z.elim
    · exact z.elim
    · obtain ⟨r, H2, os2, bare2, un2, hok2, rv, er, dx, ne, nd, e2⟩ := z
      subst er
      obtain ⟨h2, g2, d2, t2, os'⟩ := s'
      subst e2
      refine ⟨rv, mk_end (raises_own T.ex ty) I1 big keep un2 hok2 os2 bare2 ((upd_ne ne.symm).trans upd_same) upd_same ((upd_ne ne).symm.trans nd) ?_⟩
      rw [del_made2 na ne]
      exact q1 dx ((upd_ne ne).symm.trans nd)
/-- raise C(e, e2) -/
theorem ps_raise2 {W : WX} {t : TA} {rp : Pos} (hc : X.calm = true) (tk : Takes X W) (T : XIn X.K C fI) (ty : PySem.W.typeIn X.K (.ref C) = some (.type "type")) (F : FnOk X.prog X.w X.K X.mg X.base CX0 1 fI fd ["self", f1, f2] (spI2 C f1 f2)) (hr : Room 2 X.A)
    (hb : XB X.K fd ["self", f1, f2] [] (fun us _ => us) (fun vs _ => vs)) (hg : Gl X x) (hm : X.mg x = some (.ref C)) (ha : PA X [e, e2] t)
    (hdb : (x == ("__debug__" : Str)) = false := by decide) (hst : starEach [e, e2] X.env = (false, eval e X.env) :: starEach [e2] X.env := by rfl) (hpl : (backTo pos (starEach [e2] X.env)).any (·.1) = false := by rfl) :
    PS X (.Raise (some (.Call (.Name x p) [e, e2] [] pos)) none rp) (fun _ σ H => tMk2 C f1 f2 t σ H fun cls d H' => W cls d σ H') :=
  ps_raise hc tk (pmk_x2 T ty F hr hb hg hm ha hdb hst hpl)
end
end Xl
namespace My
open PySem PySem.Spec PyProof.Rows L2 Gy Xl Xs Xt
/-- a class of errors with two fields: raised -/
structure Rz2 (P : Program) (w : World) (K : PySem.W.Frag) (mg : Str → Option Value) (base : Heap) (nm f1 f2 : Str) (C : Addr) : Prop where
  gm : mg nm = some (.ref C)
  ty : PySem.W.typeIn K (.ref C) = some (.type "type")
  ex : ∃ (fI : Addr) (fd : FuncData), XIn K C fI ∧ FnOk P w K mg base CX0 1 fI fd ["self", f1, f2] (spI2 C f1 f2) ∧ XB K fd ["self", f1, f2] [] (fun us _ => us) (fun vs _ => vs)
/-- what is wanted where C(v1, v2) is raised -/
def Ro2 (E : XK) (C : Addr) (f1 f2 : Str) (v1 v2 : V) (H : Hp) : Prop := ∀ H' dx, Same H H' → H' dx = some (.xd [(f2, v2), (f1, v1)]) → E (.ref C) (some dx) H'
theorem Ro2.same {E : XK} {C : Addr} {f1 f2 : Str} {v1 v2 : V} {H H1 : Hp} (h : Ro2 E C f1 f2 v1 v2 H) (s : Same H H1) : Ro2 E C f1 f2 v1 v2 H1 := fun H' dx s1 e => h H' dx (s.trans s1) e
/-- xs[i](e, ..): one of several defs -/
def tCallIx (S : Addr → Option Sp) (tf : TE) (t : TA) : TE := fun σ H Q => tf σ H fun v H1 => ∃ f sp, v = .ref f ∧ S f = some sp ∧ t σ H1 fun vs H2 => sp vs H2 Q (fun _ _ _ => False)
theorem pe_callIx {X : Cx} {k : Nat} {S : Addr → Option Sp} {a b e : Expr} {es : List Expr} {tf : TE} {t : TA} {p pos : Pos} (A : ∀ f sp, S f = some sp → Held X.prog X.w X.K X.mg X.base k f sp) (hr : Room k X.A) (hf : PE X (.Subscript a b p) tf) (ha : PA X (e :: es) t)
    (he : starEach (e :: es) X.env = (false, eval e X.env) :: starEach es X.env := by rfl) (hpl : (backTo pos (starEach es X.env)).any (·.1) = false := by rfl) : PE X (.Call (.Subscript a b p) (e :: es) [] pos) (tCallIx S tf t) := by
  refine ⟨fun pins s σ H Q I h => ?_⟩
  rw [show eval (.Call (.Subscript a b p) (e :: es) [] pos) X.env = (do callWith pos (← eval (.Subscript a b p) X.env) [] (backTo pos (starEach (e :: es) X.env)) (backToKw pos (keywordEach [] X.env))) from rfl]
  refine wpAny_bind (thn (hf.run pins s σ H _ I h) fun u s1 ⟨v, H1, I1, r1, f, sp, ev, hS, q1⟩ => ?_)
  subst ev
  cases r1
  obtain ⟨fd, ps, F, hk, hb⟩ := (A f sp hS).ex
  refine PySem.W.callWith_K (h₀ := X.base) I.ok.mod.kin hk (thn (ha.run pos pins s1 σ _ _ I1 q1) fun us s2 ⟨vs, H2, I2, r, q⟩ => ⟨I2.kIn, ?_⟩) he hpl
  have q' : sp (vs ++ []) H2 Q (fun _ _ _ => False) := by
    rw [List.append_nil]
    exact q
  exact run_fn F hr hb .nil (fun _ _ _ _ _ _ _ z => z.elim) I2 r q'
theorem Held.of {P : Program} {w : World} {K : PySem.W.Frag} {mg : Str → Option Value} {base : Heap} {k j : Nat} {f : Addr} {nm : Str} {ps : List Str} {sp : Sp} (F : Fk P w K mg base CX0 j nm ps sp) (h : j ≤ k) (m : mg nm = some (.ref f)) : Held P w K mg base k f sp := by
  obtain ⟨g, fd, m', kp, b, G⟩ := F.ex
  rw [m] at m'
  cases m'
  exact ⟨fd, ps, G.mono h, kp, b⟩
/-- f(e, ..) in a try -/
theorem pe_callSF {X : Cx} {CX : CXT} {k : Nat} {ps : List Str} {sp : Sp} {E : L2.St → XK} {x : Str} {p pos : Pos} {e : Expr} {es : List Expr} {t : TA} (F : Fk X.prog X.w X.K X.mg X.base CX k x ps sp) (hr : Room k X.A) (hg : Gl X x) (hx : ∀ σ, PassesAt CX X σ (E σ)) (ha : PA X (e :: es) t)
    (hdb : (x == ("__debug__" : Str)) = false := by decide) (he : starEach (e :: es) X.env = (false, eval e X.env) :: starEach es X.env := by rfl)
    (hpl : (backTo pos (starEach es X.env)).any (·.1) = false := by rfl) : PE X (.Call (.Name x p) (e :: es) [] pos) (tCallSD sp [] E t) := by
  obtain ⟨f, fd, m, kp, b, G⟩ := F.ex
  exact pe_callSD G hr hg m kp b .nil hx ha hdb he hpl
/-- what is known of a class of errors that is caught -/
structure Xc (K : PySem.W.Frag) (C R : Addr) : Prop where
  x : XCl K C
  em : PySem.W.exmOne K (.ref C) (.ref C) = some true
  ki : PySem.W.kitOne K (.ref C) (.ref R) = some true
theorem Xc.xf {K : PySem.W.Frag} {C R : Addr} (h : Xc K C R) : XfC K C := ⟨h.x.ga, h.x.gg, h.x.ex, h.x.hd⟩
/-- the class of an object, as the built-in isinstance asks for it -/
structure Cg (K : PySem.W.Frag) : Prop where
  cg : PySem.W.specialIn K (.builtin "object.__class__") "__get__" = some (some (.builtin "getset_descriptor.__get__"))
  ct : PySem.W.takesIn K (.builtin "object.__class__") = some true
end My

namespace My
open PySem PySem.Spec PyProof.Rows L2 Gy Xl Xs Xt
/-! ### what is told of a call -/
def relOf : PyData → List Str × Nat
  | .tuple [.tuple ds, .int c] => (txts ds, c.toNat)
  | _ => ([], 0)
theorem relOf_reld (xs : List Str) (c : Nat) : relOf (reld xs c) = (xs, c) := by
  show (txts (xs.map PyData.str), (c : Int).toNat) = _
  rw [txts_map]
  rfl
def T2 (w t : Str) : PyData := .tuple [.str w, .str t]
def got (k : Int) (d e : PyData) : Option PyData :=
  if k = 0 then some (.tuple ((gAdd (relOf d).1 (relOf d).2).map PyData.str))
  else if k = 1 then some (.tuple ((gRem (relOf d).1 (relOf d).2).map PyData.str))
  else if k = 2 then (posn (relOf d).1 e).map fun (j : Nat) => PyData.int (j : Int)
  else if k = 3 then (posn (relOf d).1 e).map fun j => .bool (decide (j ≤ (relOf d).2))
  else if isRel e = true then some (.bool (apart (relOf d).1 (relOf e).1)) else none
def toldD (k : Int) (d e : PyData) : PyData := if isRel d = true then (match got k d e with
    | some r => T2 "told" r.shown
    | none => if k = 4 then T2 "relink" e.shown else T2 "host" e.shown) else T2 "relink" d.shown
theorem told_bad {k : Int} {d e : PyData} (h : isRel d = false) : toldD k d e = T2 "relink" d.shown := by
  unfold toldD
  rw [h]
  rfl
theorem told_got {k : Int} {d e r : PyData} (h : isRel d = true) (g : got k d e = some r) : toldD k d e = T2 "told" r.shown := by
  unfold toldD
  rw [if_pos h, g]
theorem told_four {d e : PyData} (h : isRel d = true) (g : got 4 d e = none) : toldD 4 d e = T2 "relink" e.shown := by
  unfold toldD
  rw [if_pos h, g]
  rfl
theorem told_host {k : Int} {d e : PyData} (h : isRel d = true) (g : got k d e = none) (n : k ≠ 4) : toldD k d e = T2 "host" e.shown := by
  unfold toldD
  rw [if_pos h, g]
  exact if_neg n
theorem got_0 {xs : List Str} {c : Nat} {e : PyData} : got 0 (reld xs c) e = some (.tuple ((gAdd xs c).map PyData.str)) := by
  unfold got
  rw [if_pos rfl, relOf_reld]
theorem got_1 {xs : List Str} {c : Nat} {e : PyData} : got 1 (reld xs c) e = some (.tuple ((gRem xs c).map PyData.str)) := by
  unfold got
  rw [if_neg (by decide), if_pos rfl, relOf_reld]
theorem got_2 {xs : List Str} {c : Nat} {e : PyData} : got 2 (reld xs c) e = (posn xs e).map fun (j : Nat) => PyData.int (j : Int) := by
  unfold got
  rw [if_neg (by decide), if_neg (by decide), if_pos rfl, relOf_reld]
theorem got_3 {xs : List Str} {c : Nat} {e : PyData} : got 3 (reld xs c) e = (posn xs e).map fun j => .bool (decide (j ≤ c)) := by
  unfold got
  rw [if_neg (by decide), if_neg (by decide), if_neg (by decide), if_pos rfl, relOf_reld]
theorem got_4 {xs : List Str} {c : Nat} {e : PyData} : got 4 (reld xs c) e = if isRel e = true then some (.bool (apart xs (relOf e).1)) else none := by
  unfold got
  rw [if_neg (by decide), if_neg (by decide), if_neg (by decide), if_neg (by decide), relOf_reld]
theorem tams_mem : ∀ {ds : List PyData} {d : PyData}, tams ds = true → d ∈ ds → tam d = true
  | e :: ds, d, h, m => by
    have h' : tam e = true ∧ tams ds = true := by simpa only [tams, Bool.and_eq_true] using h
    rcases List.mem_cons.mp m with rfl | m
    · exact h'.1
    · exact tams_mem h'.2 m
theorem tam_reld {xs : List Str} {c : Nat} (h : tam (reld xs c) = true) : xs.length ≤ 14 ∧ ∀ x ∈ xs, tam (.str x) = true := by
  have z : (decide (2 ≤ 14) && ((decide ((xs.map PyData.str).length ≤ 14) && tams (xs.map PyData.str)) && (tam (.int (c : Int)) && true))) = true := h
  simp only [Bool.and_eq_true, decide_eq_true_eq, List.length_map] at z
  exact ⟨z.2.1.1, fun x hx => tams_mem z.2.1.2 (List.mem_map_of_mem hx)⟩
theorem tam_two {x y : Str} (hx : tam (.str x) = true) (hy : tam (.str y) = true) : tam (.tuple ([x, y].map PyData.str)) = true := by
  show (decide (2 ≤ 14) && (tam (.str x) && (tam (.str y) && true))) = true
  rw [hx, hy]
  rfl
theorem tam_lnk {x y : Str} (hx : tam (.str x) = true) (hy : tam (.str y) = true) : tam (.tuple ((lnk x y).map PyData.str)) = true ∧ (PyData.tuple ((lnk x y).map PyData.str)).depth ≤ 2 := by
  unfold lnk
  split
  · exact ⟨tam_two hx hy, by show 1 ≤ 2; decide⟩
  · exact ⟨tam_two hy hx, by show 1 ≤ 2; decide⟩
theorem got_tam {k : Int} {d e r : PyData} (ir : isRel d = true) (td : tam d = true) (g : got k d e = some r) : tam r = true ∧ r.depth ≤ 2 := by
  obtain ⟨xs, c, rfl, l3, nd, kl, _⟩ := rel_parts ir
  obtain ⟨l14, tx⟩ := tam_reld td
  unfold got at g
  rw [relOf_reld] at g
  dsimp only at g
  split at g
  · cases g
    exact tam_lnk (tx _ (getD_mem (by omega))) (tx _ (getD_mem (by omega)))
  split at g
  · cases g
    exact tam_lnk (tx _ (getD_mem (by omega))) (tx _ (getD_mem (by omega)))
  split at g
  · obtain ⟨j, hj, rfl⟩ := Option.map_eq_some_iff.mp g
    have := posn_lt hj
    exact ⟨decide_eq_true (by omega), Nat.zero_le _⟩
  split at g
  · obtain ⟨j, hj, rfl⟩ := Option.map_eq_some_iff.mp g
    exact ⟨rfl, Nat.zero_le _⟩
  split at g
  · cases g
    exact ⟨rfl, Nat.zero_le _⟩
  · cases g
section
variable {P : Program} {w : World} {K : PySem.W.Frag} {mg : Str → Option Value} {base : Heap} {H : Hp}
def spCall (K : PySem.W.Frag) (C U : Addr) : Sp := fun vs H Q E => ∃ (k : Int) (v h : V) (d e : PyData), vs = [.int k, v, h] ∧ 0 ≤ k ∧ k ≤ 4 ∧ Dn K H v d ∧ sml d = true ∧ Dn K H h e ∧ sml e = true ∧ (isRel d = false → Ro E C "value" v H) ∧
  (isRel d = true → got k d e = none → k = 4 → Ro E C "value" h H) ∧ (isRel d = true → got k d e = none → k ≠ 4 → Ro E U "host" h H) ∧ (isRel d = true → ∀ r, got k d e = some r → ∀ H' u, Same H H' → Dn K H' u r → Q u H')
theorem eqn_of {i j : Int} (h : decide (V.int i = V.int j) = true) : i = j := by
  have z := of_decide_eq_true h
  injection z
theorem nen_of {i j : Int} (h : ¬ decide (V.int i = V.int j) = true) : i ≠ j := fun z => h (decide_eq_true (by rw [z]))
theorem ok_call16 {f C U : Addr} {fd : FuncData} (F : Fun K "_law_call" "_law_call" s_law_call f fd) (G_added_link : Fk P w K mg base (L2.CX P w) 6 "added_link" ["relink"] (spQl K C gAdd)) (G_removed_link : Fk P w K mg base (L2.CX P w) 6 "removed_link" ["relink"] (spQl K C gRem))
    (G_position : Fk P w K mg base (L2.CX P w) 6 "position" ["relink", "host"] (spQh K C U fun j _ => .int (j : Int))) (G_is_near : Fk P w K mg base (L2.CX P w) 7 "is_near" ["relink", "host"] (spQh K C U fun j c => .bl (decide (j ≤ c)))) (G_are_independent : Fk P w K mg base (L2.CX P w) 6 "are_independent" ["one", "other"] (spInd K C)) :
    FnOk P w K mg base (L2.CX P w) 8 f fd ["_law_kind", "_law_value", "_law_name"] (spCall K C U) := by
  refine F.okX sc_law_call (fun vs H Q E h => ?_) (fun cdv A outer s H vs Q E hr h => ?_)
  · obtain ⟨k, v, h, d, e, rfl, _⟩ := h
    rfl
  · obtain ⟨k, v, h, d, e, rfl, k0, k4, dn, sm, dh, sh, q1, q2, q3, q4⟩ := h
    refine ⟨_, (pss_cons (ps_if (pt_cmpR op_eq (pv 0) pe_int (nomark _))
 (pss_one (ps_ret (pe_callF G_added_link (hr.mono (by decide)) (by rfl) (passes_call (E := E) (takes_of rfl rfl rfl rfl) (fun _ _ _ _ h => h)) (pa_cons (pv 1) pa_nil))))
 pss_nil)
 (pss_cons (ps_if (pt_cmpR op_eq (pv 0) pe_int (nomark _))
 (pss_one (ps_ret (pe_callF G_removed_link (hr.mono (by decide)) (by rfl) (passes_call (E := E) (takes_of rfl rfl rfl rfl) (fun _ _ _ _ h => h)) (pa_cons (pv 1) pa_nil))))
 pss_nil)
 (pss_cons (ps_if (pt_cmpR op_eq (pv 0) pe_int (nomark _))
 (pss_one (ps_ret (pe_callF G_position (hr.mono (by decide)) (by rfl) (passes_call (E := E) (takes_of rfl rfl rfl rfl) (fun _ _ _ _ h => h)) (pa_cons (pv 1) (pa_cons (pv 2) pa_nil)))))
 pss_nil)
 (pss_one (ps_ret (pe_ifExp (pt_cmpR op_eq (pv 0) pe_int (nomark _)) (pe_callF G_is_near (hr.mono (by decide)) (by rfl) (passes_call (E := E) (takes_of rfl rfl rfl rfl) (fun _ _ _ _ h => h)) (pa_cons (pv 1) (pa_cons (pv 2) pa_nil))) (pe_callF G_are_independent (hr.mono (by decide)) (by rfl) (passes_call (E := E) (takes_of rfl rfl rfl rfl) (fun _ _ _ _ h => h)) (pa_cons (pv 1) (pa_cons (pv 2) pa_nil))))))))), ?_⟩
    refine ⟨_, rfl, rfl, _, rfl, ite2 (fun c0 => ?_) (fun c0 => ?_)⟩
    · obtain rfl := eqn_of c0
      refine ⟨_, rfl, v, d, rfl, dn, sm, fun xs c ed ir H' t s tz => ?_, q1⟩
      subst ed
      exact q4 ir _ got_0 _ _ s (.tup tz (dns_strs _))
    refine ⟨_, rfl, rfl, _, rfl, ite2 (fun c1 => ?_) (fun c1 => ?_)⟩
    · obtain rfl := eqn_of c1
      refine ⟨_, rfl, v, d, rfl, dn, sm, fun xs c ed ir H' t s tz => ?_, q1⟩
      subst ed
      exact q4 ir _ got_1 _ _ s (.tup tz (dns_strs _))
    refine ⟨_, rfl, rfl, _, rfl, ite2 (fun c2 => ?_) (fun c2 => ?_)⟩
    · obtain rfl := eqn_of c2
      refine ⟨_, rfl, _, rfl, v, h, d, e, rfl, dn, sm, dh, sh, q1, fun xs c ed ir => ⟨fun j hj H' s => ?_, fun hn => ?_⟩⟩
      · subst ed
        exact q4 ir _ (got_2.trans (by rw [hj]; rfl)) _ _ s (.int _)
      · subst ed
        exact q3 ir (got_2.trans (by rw [hn]; rfl)) (by decide)
    refine ⟨_, rfl, rfl, _, rfl, ite2 (fun c3 => ?_) (fun c3 => ?_)⟩
    · obtain rfl := eqn_of c3
      refine ⟨_, rfl, _, rfl, v, h, d, e, rfl, dn, sm, dh, sh, q1, fun xs c ed ir => ⟨fun j hj H' s => ?_, fun hn => ?_⟩⟩
      · subst ed
        exact q4 ir _ (got_3.trans (by rw [hj]; rfl)) _ _ s (.bl _)
      · subst ed
        exact q3 ir (got_3.trans (by rw [hn]; rfl)) (by decide)
    have n0 := nen_of c0
    have n1 := nen_of c1
    have n2 := nen_of c2
    have n3 := nen_of c3
    obtain rfl : k = 4 := by omega
    refine ⟨_, rfl, _, rfl, v, h, d, e, rfl, dn, sm, dh, sh, q1, fun ir ie => ?_, fun xs c ys m ed ee ir ie H' s => ?_⟩
    · obtain ⟨xs, c, rfl, _⟩ := rel_parts ir
      exact q2 ir (got_4.trans (by rw [ie]; rfl)) rfl
    · subst ed
      exact q4 ir _ (got_4.trans (by rw [if_pos ie, ee, relOf_reld])) _ _ s (.bl _)
structure X16 (K : PySem.W.Frag) (C U R : Addr) : Prop where
  xC : XCl K C
  xU : XCl K U
  mCC : PySem.W.exmOne K (.ref C) (.ref C) = some true
  mUC : PySem.W.exmOne K (.ref U) (.ref C) = some false
  mUU : PySem.W.exmOne K (.ref U) (.ref U) = some true
  kCR : PySem.W.kitOne K (.ref C) (.ref R) = some true
  kCV : PySem.W.kitOne K (.ref C) (.type "ValueError") = some true
  kUR : PySem.W.kitOne K (.ref U) (.ref R) = some false
  kUL : PySem.W.kitOne K (.ref U) (.type "LookupError") = some true
  fC : PySem.W.findIn K (.ref C) "value" = some none
  fU : PySem.W.findIn K (.ref U) "host" = some none
theorem xf_of {K : PySem.W.Frag} {C : Addr} (x : XCl K C) : XfC K C := ⟨x.ga, x.gg, x.ex, x.hd⟩
def spTold (K : PySem.W.Frag) : Sp := fun vs H Q _ => ∃ (k : Int) (v h : V) (d e : PyData), vs = [.int k, v, h] ∧ 0 ≤ k ∧ k ≤ 4 ∧ Dn K H v d ∧ Dn K H h e ∧ tam d = true ∧ tam e = true ∧ d.depth ≤ 4 ∧ e.depth ≤ 4 ∧
  ∀ H' t, Same H H' → Dn K H' (.ref t) (toldD k d e) → Q (.ref t) H'
theorem dn_T2 {t : Addr} {a b : Str} (h : Tz H t [.str a, .str b]) : Dn K H (.ref t) (T2 a b) := .tup h (.cons (.str _) (.cons (.str _) .nil))
theorem ok_told16 {f C U R : Addr} {fd : FuncData} (F : Fun K "_law_told" "_law_told" s_law_told f fd) (Y : Bn mg) (gC : mg "InvalidRelink" = some (.ref C)) (gU : mg "UnknownHost" = some (.ref U)) (gR : mg "RelinkTreeError" = some (.ref R)) (gL : mg "LookupError" = none) (gV : mg "ValueError" = none)
    (X : X16 K C U R) (G : Cg K) (G_law_call : Fk P w K mg base (L2.CX P w) 8 "_law_call" ["_law_kind", "_law_value", "_law_name"] (spCall K C U)) : FnG P w K mg base CX0 9 f fd ["_law_kind", "_law_value", "_law_name"] (spTold K) := by
  refine fun_g0 F sc_law_told (fun {vs H Q E} h => ?_) (fun cdv A outer s H vs Q E gd hr h => ?_)
  · obtain ⟨k, v, h, d, e, rfl, _⟩ := h
    rfl
  · obtain ⟨k, v, h, d, e, rfl, k0, k4, dn, dh, td, te, pd, pe, q⟩ := h
    have hu70 := Room.units70 hr
    refine ⟨_, pss_cons (ps_set (i := 3) sc_law_told.nd rfl (.inl rfl) (pe_tupZ (pa_cons pe_str (pa_cons pe_str pa_nil))))
      (pss_cons (ps_try_manyAs (i := 4) (n := "e") rfl rfl sc_law_told.nd rfl rfl takes0
        (fun W pn xe tk _ => pss_one (ps_set (i := 3) sc_law_told.nd rfl (.inl rfl) (pe_tupZ (pa_cons pe_str (pa_cons (pe_callB (show CallR _ (.builtin "repr") (rReprN K) from repr_dn gd hu70) (by rfl) Y.repr (by decide +kernel) (pa_cons (pe_callSF G_law_call (hr.mono (by decide)) (by rfl) (fun σ => passAt tk σ) (pa_cons (pv 0) (pa_cons (pv 1) (pa_cons (pv 2) pa_nil)))) pa_nil)) pa_nil)))))
        (.cons ⟨rfl, by decide, .inl gC⟩ (fun a oe cls d pn hz hf => pss_one (ps_set (i := 3) sc_law_told.nd rfl (.inl rfl) (pe_ifExp
            (PW.pt (pw_and (pt_val (pe_callB (show CallR _ (.builtin "isinstance") (rIsS K a cls d) from call_isS G.cg G.ct hz hf) (by rfl) Y.isinstance (by decide +kernel) (pa_cons (pv 4) (pa_cons (pe_glob (v := .ref R) (by rfl) gR rfl) pa_nil))))
              (pw_and1 (pt_val (pe_callB (show CallR _ (.builtin "isinstance") (rIsS K a cls d) from call_isS G.cg G.ct hz hf) (by rfl) Y.isinstance (by decide +kernel) (pa_cons (pv 4) (pa_cons (pe_bltn (v := .ty "ValueError") (by rfl) gV (by decide +kernel) rfl) pa_nil)))))))
            (pe_tupZ (pa_cons pe_str (pa_cons (pe_callB (show CallR _ (.builtin "repr") (rReprN K) from repr_dn gd hu70) (by rfl) Y.repr (by decide +kernel) (pa_cons (pe_xf (xf_of X.xC) X.fC hz hf (pv 4)) pa_nil)) pa_nil)))
            (pv 3))))
        (.cons ⟨rfl, by decide, .inl gU⟩ (fun a oe cls d pn hz hf => pss_cons (ps_set (i := 5) sc_law_told.nd rfl (.inl rfl) (pe_and
            (pe_callB (show CallR _ (.builtin "isinstance") (rIsS K a cls d) from call_isS G.cg G.ct hz hf) (by rfl) Y.isinstance (by decide +kernel) (pa_cons (pv 4) (pa_cons (pe_bltn (v := .ty "LookupError") (by rfl) gL (by decide +kernel) rfl) pa_nil)))
            (pe_one (pe_not (pe_callB (show CallR _ (.builtin "isinstance") (rIsS K a cls d) from call_isS G.cg G.ct hz hf) (by rfl) Y.isinstance (by decide +kernel) (pa_cons (pv 4) (pa_cons (pe_glob (v := .ref R) (by rfl) gR rfl) pa_nil)))))))
            (pss_one (ps_set (i := 3) sc_law_told.nd rfl (.inl rfl) (pe_ifExp (pt_val (pv 5))
              (pe_tupZ (pa_cons pe_str (pa_cons (pe_callB (show CallR _ (.builtin "repr") (rReprN K) from repr_dn gd hu70) (by rfl) Y.repr (by decide +kernel) (pa_cons (pe_xf (xf_of X.xU) X.fU hz hf (pv 4)) pa_nil)) pa_nil)))
              (pv 3))))) .nil)))
      (pss_one (ps_ret (pv 3)))), ?_⟩
    refine ⟨(by show 2 ≤ sizeLine; decide), fun t0 o0 n0 s0 z0 => ?_⟩
    generalize upd _ t0 o0 = H0 at s0 z0 ⊢
    refine ⟨_, rfl, _, rfl, _, rfl, k, v, h, d, e, rfl, k0, k4, dn.same s0, tam.sml td, dh.same s0, tam.sml te, fun ir H1 dx s1 e1 => ?A, fun ir g k9 H1 dx s1 e1 => ?B, fun ir g k9 H1 dx s1 e1 => ?C, fun ir r g H1 u s1 du => ?D⟩
    case D =>
      rw [told_got ir g] at q
      obtain ⟨tr, dr⟩ := got_tam ir td g
      have ft := tam.fits tr (by omega)
      refine ⟨u, r, rfl, du, ft.1, ft.2.1, ft.2.2, ?_⟩
      refine ⟨(by show 2 ≤ sizeLine; decide), fun t1 o1 n1 s2 z1 => ?_⟩
      exact ⟨_, rfl, q _ t1 ((s0.trans s1).trans s2) (dn_T2 z1)⟩
    case C =>
      rw [told_host ir g k9] at q
      refine ⟨false, X.mUC, fun z => (nomatch z), fun _ => ⟨true, X.mUU, fun _ a na => ?_, fun z => nomatch z⟩⟩
      have ft := tam.fits te (by omega)
      have s01 := s0.trans s1
      refine ⟨_, rfl, U, dx, _, .ty "LookupError", .type "LookupError", true, rfl, rfl, rfl, e1, X.xU, .ty _, X.kUL, _, rfl, iteT ?_⟩
      refine ⟨_, rfl, U, dx, _, .ref R, .ref R, false, rfl, rfl, rfl, e1, X.xU, .own R, X.kUR, _, rfl, ?_⟩
      refine ⟨_, rfl, _, rfl, iteT ?_⟩
      refine ⟨_, rfl, rfl, rfl, dx, _, _, rfl, e1, rfl, _, e, rfl, dh.same s01, ft.1, ft.2.1, ft.2.2, ?_⟩
      refine ⟨(by show 2 ≤ sizeLine; decide), fun t1 o1 n1 s2 z1 => ?_⟩
      exact ⟨_, rfl, q _ t1 (s01.trans s2) (dn_T2 z1)⟩
    case B =>
      subst k9
      rw [told_four ir g] at q
      refine ⟨true, X.mCC, fun _ a na => ?_, fun z => nomatch z⟩
      have ft := tam.fits te (by omega)
      have s01 := s0.trans s1
      refine ⟨_, rfl, C, dx, _, .ref R, .ref R, true, rfl, rfl, rfl, e1, X.xC, .own R, X.kCR, _, rfl, iteT ?_⟩
      refine ⟨_, rfl, C, dx, _, .ty "ValueError", .type "ValueError", true, rfl, rfl, rfl, e1, X.xC, .ty _, X.kCV, _, rfl, iteT ?_⟩
      refine ⟨_, rfl, rfl, rfl, dx, _, _, rfl, e1, rfl, _, e, rfl, dh.same s01, ft.1, ft.2.1, ft.2.2, ?_⟩
      refine ⟨(by show 2 ≤ sizeLine; decide), fun t1 o1 n1 s2 z1 => ?_⟩
      exact ⟨_, rfl, q _ t1 (s01.trans s2) (dn_T2 z1)⟩
    case A =>
      rw [told_bad ir] at q
      refine ⟨true, X.mCC, fun _ a na => ?_, fun z => nomatch z⟩
      have ft := tam.fits td (by omega)
      have s01 := s0.trans s1
      refine ⟨_, rfl, C, dx, _, .ref R, .ref R, true, rfl, rfl, rfl, e1, X.xC, .own R, X.kCR, _, rfl, iteT ?_⟩
      refine ⟨_, rfl, C, dx, _, .ty "ValueError", .type "ValueError", true, rfl, rfl, rfl, e1, X.xC, .ty _, X.kCV, _, rfl, iteT ?_⟩
      refine ⟨_, rfl, rfl, rfl, dx, _, _, rfl, e1, rfl, _, d, rfl, dn.same s01, ft.1, ft.2.1, ft.2.2, ?_⟩
      refine ⟨(by show 2 ≤ sizeLine; decide), fun t1 o1 n1 s2 z1 => ?_⟩
      exact ⟨_, rfl, q _ t1 (s01.trans s2) (dn_T2 z1)⟩
end
end My

/-! Defs that are called with keywords. -/
namespace My
open PySem PySem.Spec PyProof.Rows L2 Gy Xl Xs Xt
/-- a def of the top: n values by position, keywords ks; gV puts them into the parameters' order -/
structure Fw (P : Program) (w : World) (K : PySem.W.Frag) (mg : Str → Option Value) (base : Heap) (CX : CXT) (k : Nat) (nm : Str) (ps : List Str) (n : Nat) (ks : List Str) (gV : List V → List V → List V) (sp : Sp) : Prop where
  ex : ∃ (f : Addr) (fd : FuncData) (g : List Value → List Value → List Value), mg nm = some (.ref f) ∧ PySem.W.keepIn K (.ref f) = true ∧ KBn K fd ps n ks g gV ∧ FnOk P w K mg base CX k f fd ps sp
section
variable {X : Cx} {CX : CXT} {k n : Nat} {ps ks : List Str} {sp : Sp} {E : XK} {x : Str} {p pos : Pos} {e : Expr} {es : List Expr} {kws : List Keyword} {t tk : TA} {gV : List V → List V → List V}
theorem pe_callNF (F : Fw X.prog X.w X.K X.mg X.base CX k x ps n ks gV sp) (hr : Room k X.A) (hg : Gl X x) (hx : Passes CX X E) (ha : PA X (e :: es) t) (hkw : PK X kws tk)
    (hall : (backToKw pos (keywordEach kws X.env)).all (·.1.isSome) = true := by rfl) (hks : (backToKw pos (keywordEach kws X.env)).filterMap (·.1) = ks := by rfl) (hdb : (x == ("__debug__" : Str)) = false := by decide)
    (he : starEach (e :: es) X.env = (false, eval e X.env) :: starEach es X.env := by rfl) (hpl : ((backTo pos (starEach (e :: es) X.env)).any (·.1) || (backToKw pos (keywordEach kws X.env)).any (·.1.isNone)) = false := by rfl) :
    PE X (.Call (.Name x p) (e :: es) kws pos) (tCallN n ks.length sp gV E t tk) := by
  obtain ⟨f, fd, g, m, kp, b, G⟩ := F.ex
  exact pe_callN G hr hg m kp b hx ha hkw hall hks hdb he hpl
/-- f(k = v, ..) -/
def tCall0 (m : Nat) (sp : Sp) (gV : List V → List V → List V) (E : XK) (tk : TA) : TE := fun σ H Q => tk σ H fun zs H2 => zs.length = m ∧ sp (gV [] zs) H2 Q E
theorem pe_call0F (F : Fw X.prog X.w X.K X.mg X.base CX k x ps 0 ks gV sp) (hr : Room k X.A) (hg : Gl X x) (hx : Passes CX X E) (hkw : PK X kws tk)
    (hall : (backToKw pos (keywordEach kws X.env)).all (·.1.isSome) = true := by rfl) (hks : (backToKw pos (keywordEach kws X.env)).filterMap (·.1) = ks := by rfl) (hdb : (x == ("__debug__" : Str)) = false := by decide)
    (hpl : ((backTo pos (starEach [] X.env)).any (·.1) || (backToKw pos (keywordEach kws X.env)).any (·.1.isNone)) = false := by rfl) :
    PE X (.Call (.Name x p) [] kws pos) (tCall0 ks.length sp gV E tk) := by
  obtain ⟨f, fd, g, m, kp, b, G⟩ := F.ex
  constructor
  intro pins s σ H Q I h
  refine wpAny_Call_Name_kw (ld_glob I hg m ?_ hdb)
  refine PySem.W.callWith_KW0 (h₀ := X.base) I.ok.mod.kin kp hall (thn (hkw.run pos pins s σ H _ I h) ?_) hpl
  rintro ws s2 ⟨zs, H2, I2, rz, l2, q2⟩
  rw [hks]
  exact ⟨I2.kIn, run_fnN (us := []) G hr b hx I2 .nil rz rfl l2 q2⟩
end
theorem vals_back : ∀ {xs : List V} {us : List Value}, Vals xs us → Vals xs.reverse us.reverse
  | _, _, .nil => .nil
  | _, _, .cons h t => by
    rw [List.reverse_cons, List.reverse_cons]
    exact (vals_back t).append (.cons h .nil)
/-- the keywords in the parameters' order, or turned about -/
theorem kbn_fwd {K : PySem.W.Frag} {x qual : Str} {st : Stmt} {f : Addr} {fd : FuncData} {ps ks : List Str} {n : Nat} (F : Fun K x qual st f fd)
    (h : ∀ (kV doc pm : Value) (an : Option Addr) (cdv ct : Value) (us ws : List Value), us.length = n → ws.length = ks.length → bindArgs (PySem.W.fnOf x qual (defArgs st) (defBody st) (defScope st) .none kV doc pm an cdv ct) ⟨us, ks.zip ws⟩ = pure (ps.zip (us ++ ws))) :
    KBn K fd ps n ks (fun us ws => us ++ ws) (fun vs zs => vs ++ zs) := by
  obtain ⟨oc, od, kV, doc, pm, an, cdv, ct, osl, rfl, lk, hcd⟩ := F.ex
  exact ⟨fun s us ws _ h1 h2 => .of_eq (h kV doc pm an cdv ct us ws h1 h2), fun r z => r.append z⟩
theorem kbn_back {K : PySem.W.Frag} {x qual : Str} {st : Stmt} {f : Addr} {fd : FuncData} {ps ks : List Str} {n : Nat} (F : Fun K x qual st f fd)
    (h : ∀ (kV doc pm : Value) (an : Option Addr) (cdv ct : Value) (us ws : List Value), us.length = n → ws.length = ks.length → bindArgs (PySem.W.fnOf x qual (defArgs st) (defBody st) (defScope st) .none kV doc pm an cdv ct) ⟨us, ks.zip ws⟩ = pure (ps.zip (us ++ ws.reverse))) :
    KBn K fd ps n ks (fun us ws => us ++ ws.reverse) (fun vs zs => vs ++ zs.reverse) := by
  obtain ⟨oc, od, kV, doc, pm, an, cdv, ct, osl, rfl, lk, hcd⟩ := F.ex
  exact ⟨fun s us ws _ h1 h2 => .of_eq (h kV doc pm an cdv ct us ws h1 h2), fun r z => r.append (vals_back z)⟩
end My

namespace My
open PySem PySem.Spec PyProof.Rows L2
/-! ### a list of texts has one sorted arrangement -/
def leS (a b : Str) : Prop := a.cps.toList ≤ b.cps.toList
theorem leS_of {a b : Str} (h : ltCps b.cps.toList a.cps.toList = false) : leS a b := by
  rw [ltCps_eq] at h
  exact List.not_lt.mp (of_decide_eq_false h)
theorem rise_all : ∀ {r : List Str} {p : Str}, risingS p r = true → (∀ x ∈ r, leS p x) ∧ r.Pairwise leS
  | [], _, _ => ⟨fun _ z => (nomatch z), List.Pairwise.nil⟩
  | x :: r, p, h => by
    have h2 : (!ltCps x.cps.toList p.cps.toList) = true ∧ risingS x r = true := by simpa only [risingS, Bool.and_eq_true] using h
    obtain ⟨a, b⟩ := rise_all h2.2
    have px : leS p x := leS_of (by simpa using h2.1)
    refine ⟨fun y hy => ?_, List.Pairwise.cons a b⟩
    rcases List.mem_cons.mp hy with rfl | hy
    · exact px
    · exact List.le_trans px (a y hy)
theorem sorted_pw {ys : List Str} (h : sortedS ys = true) : ys.Pairwise leS := by
  cases ys with
  | nil => exact List.Pairwise.nil
  | cons x r =>
    obtain ⟨a, b⟩ := rise_all (show risingS x r = true from h)
    exact List.Pairwise.cons a b
theorem leS_anti {a b : Str} (h1 : leS a b) (h2 : leS b a) : a = b := by
  have e := List.le_antisymm h1 h2
  cases a with
  | mk ca =>
    cases b with
    | mk cb =>
      have e' : ca.toList = cb.toList := e
      rw [Array.toList_inj.mp e']
theorem sort_one : ∀ {ys zs : List Str}, ys.Perm zs → ys.Pairwise leS → zs.Pairwise leS → ys = zs
  | [], zs, p, _, _ => (List.Perm.eq_nil p.symm).symm
  | y :: ys, [], p, _, _ => absurd (List.Perm.eq_nil p) (by simp)
  | y :: ys, z :: zs, p, h1, h2 => by
    have e : y = z := by
      have m1 : y ∈ z :: zs := p.mem_iff.mp List.mem_cons_self
      have m2 : z ∈ y :: ys := p.mem_iff.mpr List.mem_cons_self
      rcases List.mem_cons.mp m1 with e | m1
      · exact e
      · rcases List.mem_cons.mp m2 with e | m2
        · exact e.symm
        · exact leS_anti ((List.pairwise_cons.mp h1).1 z m2) ((List.pairwise_cons.mp h2).1 y m1)
    subst e
    rw [sort_one (List.perm_cons y |>.mp p) (List.pairwise_cons.mp h1).2 (List.pairwise_cons.mp h2).2]
theorem sort_uniq {ys zs ls : List Str} (p1 : ys.Perm ls) (s1 : sortedS ys = true) (p2 : zs.Perm ls) (s2 : sortedS zs = true) : ys = zs := sort_one (p1.trans p2.symm) (sorted_pw s1) (sorted_pw s2)
end My

namespace My
open PySem PySem.Spec PyProof.Rows L2 Gy Xl Xs Xt
theorem lnk_perm (x y : Str) : (lnk x y).Perm [x, y] := by
  unfold lnk
  split
  · exact List.Perm.refl _
  · exact List.Perm.swap _ _ _
theorem lnk_sorted (x y : Str) : sortedS (lnk x y) = true := by
  unfold lnk
  split
  · next h =>
    show (!ltCps y.cps.toList x.cps.toList && true) = true
    rw [ltCps_eq, decide_eq_false (List.lt_asymm (of_decide_eq_true h))]
    rfl
  · next h =>
    show (!ltCps x.cps.toList y.cps.toList && true) = true
    rw [ltCps_eq, Bool.eq_false_iff.mpr h]
    rfl
theorem lnk_of {x y : Str} {ys : List Str} (p : ys.Perm [x, y]) (h : sortedS ys = true) : ys = lnk x y := sort_uniq p h (lnk_perm x y) (lnk_sorted x y)
theorem apart_comm (xs ys : List Str) : apart xs ys = apart ys xs := by
  unfold apart
  congr 1
  rw [Bool.eq_iff_iff, List.any_eq_true, List.any_eq_true]
  constructor
  · rintro ⟨x, hx, h⟩
    exact ⟨x, of_decide_eq_true h, decide_eq_true hx⟩
  · rintro ⟨x, hx, h⟩
    exact ⟨x, of_decide_eq_true h, decide_eq_true hx⟩
/-- a pair of texts -/
def Tx (d : PyData) : Prop := ∃ a b, d = T2 a b ∧ PyData.strOk a = true ∧ PyData.strOk b = true
theorem told_tx {k : Int} {d e : PyData} (td : tam d = true) (te : tam e = true) : Tx (toldD k d e) := by
  cases ir : isRel d with
  | false => exact ⟨_, _, told_bad ir, by decide +kernel, tam.so td⟩
  | true =>
    cases g : got k d e with
    | some r => exact ⟨_, _, told_got ir g, by decide +kernel, tam.so (got_tam ir td g).1⟩
    | none =>
      by_cases h : k = 4
      · subst h
        exact ⟨_, _, told_four ir g, by decide +kernel, tam.so te⟩
      · exact ⟨_, _, told_host ir g h, by decide +kernel, tam.so te⟩
theorem tx_lay {d : PyData} (h : Tx d) : d.canLay0 = true ∧ SeqAt.shaped d = true := by
  obtain ⟨a, b, rfl, h1, h2⟩ := h
  have e : (T2 a b).canLay0 = true := by
    show (PyData.strOk a && (PyData.strOk b && true)) = true
    rw [h1, h2]
    rfl
  refine ⟨e, ?_⟩
  unfold SeqAt.shaped
  rw [e]
  rfl
theorem tx_two {d e : PyData} (h : Tx d) (h' : Tx e) : (PyData.list [d, e]).canLay0 = true ∧ SeqAt.shaped (.list [d, e]) = true := by
  have a : (PyData.list [d, e]).canLay0 = true := by
    show (d.canLay0 && (e.canLay0 && true)) = true
    rw [(tx_lay h).1, (tx_lay h').1]
    rfl
  refine ⟨a, ?_⟩
  unfold SeqAt.shaped
  rw [a]
  obtain ⟨_, _, rfl, _⟩ := h
  obtain ⟨_, _, rfl, _⟩ := h'
  rfl
section
variable {P : Program} {w : World} {K : PySem.W.Frag} {mg : Str → Option Value} {base : Heap} {H : Hp}
mutual
theorem dnDp : ∀ {v : V} {d : PyData}, Dn K H v d → d.canLay0 = true → Dp K H v d
  | _, _, .non, _ => .non
  | _, _, .bl b, _ => .bl b
  | _, _, .int i, _ => .int i
  | _, _, .str x, _ => .str x
  | _, _, .lst h t, n => .lst (SqL.of h) (dnsDp t n)
  | _, _, .tup h t, n => .tup h.sq (dnsDp t n)
  | _, _, .dic h, n => nomatch n
theorem dnsDp : ∀ {vs : List V} {ds : List PyData}, Dns K H vs ds → PyData.canLayAll0 ds = true → DpAll K H vs ds
  | _, _, .nil, _ => .nil
  | _, _, .cons (d := d) (ds := ds) h t, n => by
    have n2 : d.canLay0 = true ∧ PyData.canLayAll0 ds = true := by
      rw [← Bool.and_eq_true]
      exact n
    exact .cons (dnDp h n2.1) (dnsDp t n2.2)
end
theorem _root_.Gy.Dn.dp {v : V} {d : PyData} (h : Dn K H v d) (c : d.canLay0 = true) : Dp K H v d := dnDp h c
theorem tx_db {D t : Addr} {l : List V} {d : PyData} (hD : H D = some (.lst l)) (h : Tx d) (dn : Dn K H (.ref t) d) : Db K D H (.ref t) d := by
  obtain ⟨a, b, rfl, _⟩ := h
  cases dn with
  | tup hz hs =>
    have e := Dns.txts (xs := [a, b]) hs
    subst e
    refine Dn.tup ?_ (dns_strs [a, b])
    obtain ⟨o, e, c⟩ := hz
    refine ⟨o, ?_, c⟩
    rw [wo_at (fun n => ?_)]
    · exact e
    · rw [n, hD] at e
      cases e
/-- one more pair at the list's end -/
theorem acc_push {H3 : Hp} {D t : Addr} {ts : List V} {ds : List PyData} {d : PyData} (hD : H3 D = some (.lst ts)) (q : Dbs K D H3 ts ds) (h : Tx d) (e : Dn K H3 (.ref t) d) : Dbs K D (upd H3 D (.lst (ts ++ [.ref t]))) (ts ++ [.ref t]) (ds ++ [d]) := by
  have b : But D H3 (upd H3 D (.lst (ts ++ [.ref t]))) := fun b o n e => by rw [upd_ne n]; exact e
  exact (q.but b).app (.cons ((tx_db hD h e).but b) .nil)
theorem fits_nm {x : Str} (h : tam (.str x) = true) : Fits (.str x) := tam.fits h (Nat.zero_le _)
def spLks (K : PySem.W.Frag) : Sp := fun vs H Q _ => ∃ (v u : V) (la : Addr) (xs ys ns : List Str) (c m : Nat), vs = [v, .ref la, u] ∧ Dn K H v (reld xs c) ∧ Dn K H u (reld ys m) ∧ isRel (reld xs c) = true ∧ isRel (reld ys m) = true ∧ tam (reld xs c) = true ∧ tam (reld ys m) = true ∧
  H la = some (.lst (ns.map V.str)) ∧ (∀ x ∈ ns, Nm x) ∧ ∀ H', Same H H' → Q (.bl true) H'
theorem ok_lks {f : Addr} {fd : FuncData} (F : Fun K "_law_links_right" "_law_links_right" s_law_links_right f fd) (Y : Bn mg) (G_law_told : Fg P w K mg base CX0 9 "_law_told" ["_law_kind", "_law_value", "_law_name"] (spTold K)) : FnG P w K mg base CX0 10 f fd ["_law_value", "_law_names_here", "_law_second"] (spLks K) := by
  refine fun_g0 F sc_law_links_right (fun {vs H Q E} h => ?_) (fun cdv A outer s H vs Q E gd hr h => ?_)
  · obtain ⟨v, u, la, xs, ys, ns, c, m, rfl, _⟩ := h
    rfl
  · obtain ⟨v, u, la, xs, ys, ns, c, m, rfl, dv, du, iv, iu, tv, tu, hl, nm, q⟩ := h
    have hu70 := Room.units70 hr
    have hu64 := hr.units
    refine ⟨_, (pss_cons (ps_asg (pv 0) (pg_tup (by rfl) (pgs_cons (pg_name (i := 3) sc_law_links_right.nd rfl (Or.inl rfl)) (pgs_cons (pg_name (i := 4) sc_law_links_right.nd rfl (Or.inl rfl)) pgs_nil))))
 (pss_cons (ps_set (i := 5) sc_law_links_right.nd rfl (.inl rfl) (pe_lst (pa_cons (pe_callTy call_tupOf (by rfl) Y.tuple (by decide +kernel) (pa_cons (pe_callB cr_sortedS (by rfl) Y.sorted (by decide +kernel) (pa_cons (pe_lst (pa_cons (pe_ix (show IxR _ (rIxT K) from ix_tup) (pv 3) pe_int (fun _ _ => rfl)) (pa_cons (pe_ix (show IxR _ (rIxT K) from ix_tup) (pv 3) (pe_un un_neg pe_int) (fun _ _ => rfl)) pa_nil))) pa_nil)) pa_nil)) (pa_cons (pe_callTy call_tupOf (by rfl) Y.tuple (by decide +kernel) (pa_cons (pe_callB cr_sortedS (by rfl) Y.sorted (by decide +kernel) (pa_cons (pe_lst (pa_cons (pe_ix (show IxR _ (rIxT K) from ix_tup) (pv 3) (pv 4) (fun _ _ => rfl)) (pa_cons (pe_ix (show IxR _ (rIxT K) from ix_tup) (pv 3) (pe_op op_add (pv 4) pe_int) (fun _ _ => rfl)) pa_nil))) pa_nil)) pa_nil)) pa_nil))))
 (pss_cons (ps_if (pt_cmpR (op_neD hu64) (pe_lc (own := [("_law_kind", 10)]) (g := gName 10) (tt := tYes) rfl sc_law_links_right.nd (pi_range1 (by rfl) Y.range (pa_cons pe_int pa_nil)) (blkOk_by (N := ["_law_value", "_law_names_here", "_law_second", "_law_way", "_law_at", "_law_due", "_law_name", "_law_told_here", "_law_here", "_law_apart", "_law_kind", "_law_link"]) (sc := defScope s_law_links_right) (by decide +kernel)) (fun _ _ _ _ _ => (pg_name (i := 10) sc_law_links_right.nd rfl (Or.inl rfl))) (fun _ _ _ _ _ => pts_nil) (fun _ _ _ _ _ => (pe_callFg (E := E0) G_law_told gd (hr.mono (by decide)) (by rfl) pass0 (pa_cons (pv 10) (pa_cons (pv 0) (pa_cons pe_non pa_nil)))))) (pe_lc (own := [("_law_link", 11)]) (g := gName 11) (tt := tYes) rfl sc_law_links_right.nd (pi_list (pv 5)) (blkOk_by (N := ["_law_value", "_law_names_here", "_law_second", "_law_way", "_law_at", "_law_due", "_law_name", "_law_told_here", "_law_here", "_law_apart", "_law_kind", "_law_link"]) (sc := defScope s_law_links_right) (by decide +kernel)) (fun _ _ _ _ _ => (pg_name (i := 11) sc_law_links_right.nd rfl (Or.inl rfl))) (fun _ _ _ _ _ => pts_nil) (fun _ _ _ _ _ => (pe_tupZ (pa_cons pe_str (pa_cons (pe_callB (show CallR _ (.builtin "repr") (rReprN K) from repr_dn gd hu70) (by rfl) Y.repr (by decide +kernel) (pa_cons (pv 11) pa_nil)) pa_nil))))) (nomark _))
 (pss_one (ps_ret pe_bl))
 pss_nil)
 (pss_cons (ps_for PassesOwn.never rfl (pi_list (pv 1)) (pg_name (i := 6) sc_law_links_right.nd rfl (Or.inl rfl))
 (pss_cons (ps_set (i := 7) sc_law_links_right.nd rfl (.inl rfl) (pe_lst (pa_cons (pe_callFg (E := E0) G_law_told gd (hr.mono (by decide)) (by rfl) pass0 (pa_cons pe_int (pa_cons (pv 0) (pa_cons (pv 6) pa_nil)))) (pa_cons (pe_callFg (E := E0) G_law_told gd (hr.mono (by decide)) (by rfl) pass0 (pa_cons pe_int (pa_cons (pv 0) (pa_cons (pv 6) pa_nil)))) pa_nil))))
 (pss_cons (ps_set (i := 8) sc_law_links_right.nd rfl (.inl rfl) (pe_op op_rep (pe_lst (pa_cons (pe_tupZ (pa_cons pe_str (pa_cons (pe_callB (show CallR _ (.builtin "repr") (rReprN K) from repr_dn gd hu70) (by rfl) Y.repr (by decide +kernel) (pa_cons (pv 6) pa_nil)) pa_nil))) pa_nil)) pe_int))
 (pss_cons (ps_if (pt_cmpR op_in_seq (pv 6) (pv 3) rfl)
 (pss_one (ps_set (i := 8) sc_law_links_right.nd rfl (.inl rfl) (pe_lst (pa_cons (pe_tupZ (pa_cons pe_str (pa_cons (pe_callB (show CallR _ (.builtin "repr") (rReprN K) from repr_dn gd hu70) (by rfl) Y.repr (by decide +kernel) (pa_cons (pe_tm PySem.F.slot_tuple_index PySem.F.type_tuple_index mt_tup_index (pv 3) (pa_cons (pv 6) pa_nil)) pa_nil)) pa_nil))) (pa_cons (pe_tupZ (pa_cons pe_str (pa_cons (pe_callB (show CallR _ (.builtin "repr") (rReprN K) from repr_dn gd hu70) (by rfl) Y.repr (by decide +kernel) (pa_cons (pe_cmpR op_le (pe_tm PySem.F.slot_tuple_index PySem.F.type_tuple_index mt_tup_index (pv 3) (pa_cons (pv 6) pa_nil)) (pv 4) (nomark _)) pa_nil)) pa_nil))) pa_nil)))))
 pss_nil)
 (pss_one (ps_if (pt_cmpR (op_neD hu64) (pv 7) (pv 8) (nomark _))
 (pss_one (ps_ret pe_bl))
 pss_nil))))))
 (pss_cons (ps_set (i := 9) sc_law_links_right.nd rfl (.inl rfl) (pe_callB (cr_all rfl) (by rfl) Y.all (by decide +kernel) (pa_cons (pe_lc (own := [("_law_name", 6)]) (g := gName 6) (tt := tYes) rfl sc_law_links_right.nd (pi_tup (pv 3)) (blkOk_by (N := ["_law_value", "_law_names_here", "_law_second", "_law_way", "_law_at", "_law_due", "_law_name", "_law_told_here", "_law_here", "_law_apart", "_law_kind", "_law_link"]) (sc := defScope s_law_links_right) (by decide +kernel)) (fun _ _ _ _ _ => (pg_name (i := 6) sc_law_links_right.nd rfl (Or.inl rfl))) (fun _ _ _ _ _ => pts_nil) (fun _ _ _ _ _ => (pe_cmpR (show OpR _ _ (rIn K true) from op_notIn_seq) (pv 6) (pe_ix (show IxR _ (rIxT K) from ix_tup) (pv 2) pe_int (fun _ _ => rfl)) rfl))) pa_nil)))
 (pss_one (ps_ret (pe_cmpR (op_eqD hu64) (pe_lst (pa_cons (pe_callFg (E := E0) G_law_told gd (hr.mono (by decide)) (by rfl) pass0 (pa_cons pe_int (pa_cons (pv 0) (pa_cons (pv 2) pa_nil)))) (pa_cons (pe_callFg (E := E0) G_law_told gd (hr.mono (by decide)) (by rfl) pass0 (pa_cons pe_int (pa_cons (pv 2) (pa_cons (pv 0) pa_nil)))) pa_nil))) (pe_op op_rep (pe_lst (pa_cons (pe_tupZ (pa_cons pe_str (pa_cons (pe_callB (show CallR _ (.builtin "repr") (rReprN K) from repr_dn gd hu70) (by rfl) Y.repr (by decide +kernel) (pa_cons (pv 9) pa_nil)) pa_nil))) pa_nil)) pe_int) (nomark _))))))))), ?_⟩
    obtain ⟨xs', c', ee, l3, nd, kl, _⟩ := rel_parts iv
    obtain ⟨rfl, rfl⟩ := reld_inj ee
    clear ee
    obtain ⟨l14, tx⟩ := tam_reld tv
    obtain ⟨m14, ty⟩ := tam_reld tu
    have dpt : ∀ zs k, (reld zs k).depth ≤ 4 := fun zs k => by
      have z : PyData.depthAll (zs.map PyData.str) ≤ 0 := dep_of fun d hd => by
        obtain ⟨x, _, rfl⟩ := List.mem_map.mp hd
        exact Nat.zero_le _
      show max (PyData.depthAll (zs.map PyData.str) + 1) (max 0 0) + 1 ≤ 4
      omega
    obtain ⟨a, b, rfl, ha, hb⟩ := rel_heap dv
    obtain ⟨a2, b2, rfl, ha2, hb2⟩ := rel_heap du
    refine ⟨_, rfl, a, _, rfl, ha.sq, rfl, _, _, rfl, _, _, rfl, rfl, ?_⟩
    -- what is due
    refine ⟨_, rfl, b, _, 0, _, rfl, rfl, hb.sq, at_nat (i := 0) (by omega), _, rfl, 1, rfl, b, _, -1, _, rfl, rfl, hb.sq, at_end (by omega), (by show 2 ≤ sizeLine; decide), fun l1 n1 => ?_⟩
    generalize hg : upd _ l1 _ = H1
    obtain ⟨s1, g1⟩ := upd_new hg n1
    clear hg
    refine ⟨l1, [xs.getD 0 "", xs.getD (xs.length - 1) ""], rfl, SqL.of g1, (by show 2 < 64; decide), fun zs p zp zo np => ?_⟩
    obtain rfl := lnk_of zp zo
    clear zp zo
    generalize hg : upd _ p _ = H2
    obtain ⟨s2, g2⟩ := upd_new hg np
    clear hg
    have eA : lnk (xs.getD 0 "") (xs.getD (xs.length - 1) "") = gAdd xs c := rfl
    rw [eA] at g2
    have lk2 : ∀ x y, (lnk x y).length ≤ 100 := fun x y => by
      unfold lnk
      split
      · show 2 ≤ 100; decide
      · show 2 ≤ 100; decide
    refine ⟨p, _, rfl, SqL.of g2, (by rw [List.length_map]; exact Nat.le_trans (lk2 _ _) (by decide)), fun p1 o3 n3 s3 z3 => ?_⟩
    generalize upd _ p1 o3 = H3 at s3 z3 ⊢
    have s03 := s1.trans (s2.trans s3)
    clear g1 g2
    refine ⟨_, rfl, _, rfl, b, _, _, _, rfl, rfl, (hb.same s03).sq, at_nat (i := c) (by omega), _, rfl, _, rfl, _, _, rfl, rfl, b, _, _, _, rfl, rfl, (hb.same s03).sq, at_nat (i := c + 1) (by omega), (by show 2 ≤ sizeLine; decide), fun l4 n4 => ?_⟩
    generalize hg : upd _ l4 _ = H4
    obtain ⟨s4, g4⟩ := upd_new hg n4
    clear hg
    refine ⟨l4, [xs.getD c "", xs.getD (c + 1) ""], rfl, SqL.of g4, (by show 2 < 64; decide), fun zs p zp zo np => ?_⟩
    obtain rfl := lnk_of zp zo
    clear zp zo
    generalize hg : upd _ p _ = H5
    obtain ⟨s5, g5⟩ := upd_new hg np
    clear hg
    have eR : lnk (xs.getD c "") (xs.getD (c + 1) "") = gRem xs c := rfl
    rw [eR] at g5
    refine ⟨p, _, rfl, SqL.of g5, (by rw [List.length_map]; exact Nat.le_trans (lk2 _ _) (by decide)), fun p2 o6 n6 s6 z6 => ?_⟩
    generalize upd _ p2 o6 = H6 at s6 z6 ⊢
    have z3 := z3.same (s4.trans (s5.trans s6))
    have s06 := s03.trans (s4.trans (s5.trans s6))
    clear g4 g5 s4 s5 s6 s1 s2 s3 s03
    refine ⟨(by show 2 ≤ sizeLine; decide), fun lD n7 => ?_⟩
    generalize hg : upd _ lD _ = H7
    obtain ⟨s7, gD⟩ := upd_new hg n7
    clear hg
    have z3 := z3.same s7
    have z6 := z6.same s7
    have s07 := s06.trans s7
    clear s06 s7
    have tA := tam_lnk (tx _ (getD_mem (xs := xs) (j := 0) (by omega))) (tx _ (getD_mem (xs := xs) (j := xs.length - 1) (by omega)))
    have tR := tam_lnk (tx _ (getD_mem (xs := xs) (j := c) (by omega))) (tx _ (getD_mem (xs := xs) (j := c + 1) (by omega)))
    rw [eA] at tA
    rw [eR] at tR
    clear eA eR lk2
    -- what is told of the links
    refine ⟨2, rfl, by decide, by decide, fun D nD => ?_⟩
    refine lc_it (walk_range (lo := 0) (n := 2)) (fun i H' => Same H7 H' ∧ ∃ ts, H' D = some (.lst ts) ∧ ts.length = i ∧ Dbs K D H' ts ((List.range i).map fun (j : Nat) => toldD (0 + (j : Int)) (reld xs c) .none)) ⟨same_upd nD, [], upd_same, rfl, .nil⟩ (fun _ _ _ _ => trivial) ?_ ?_
    · rintro i y H8 H9 hi ⟨s8, ts, hT, tl, qT⟩ ⟨rfl, rfl⟩
      refine ⟨rfl, ?_⟩
      dsimp only [tYes]
      refine iteT ?_
      refine ⟨_, rfl, _, rfl, _, _, _, _, _, rfl, by omega, by omega, dn_reld (ha.same (s07.trans s8)) (hb.same (s07.trans s8)), .non, tv, rfl, dpt _ _, by decide, fun H10 t s10 dt => ?_⟩
      refine ⟨ts, s10 _ _ hT, small200 (by omega), same_upd2 (s8.trans s10) nD, _, upd_same, (by rw [List.length_append, tl]; rfl), ?_⟩
      rw [List.range_succ, List.map_append]
      exact acc_push (s10 _ _ hT) (qT.same s10) (told_tx tv rfl) dt
    rintro H8 ⟨s8, ts, hT, tl, qT⟩
    have dT : Dn K H8 (.ref D) (.list [toldD 0 (reld xs c) .none, toldD 1 (reld xs c) .none]) := .lst hT qT.dns
    clear hT tl qT
    have gD8 := s8 _ _ gD
    have z3 := z3.same s8
    have z6 := z6.same s8
    have s08 := s07.trans s8
    clear gD s07 s8
    refine ⟨_, rfl, lD, rfl, ⟨_, SqL.of gD8⟩, fun D2 nD2 => ?_⟩
    refine lc_it (walk_list (K := K) (a := lD) (xs := [.ref p1, .ref p2])) (fun i H' => Same H8 H' ∧ ∃ ts, H' D2 = some (.lst ts) ∧ ts.length = i ∧ Dbs K D2 H' ts (([gAdd xs c, gRem xs c].take i).map fun l => T2 "told" (PyData.shown (.tuple (l.map PyData.str))))) ⟨same_upd nD2, [], upd_same, rfl, .nil⟩ (fun i H' _ h => SqL.of (h.1 _ _ gD8)) ?_ ?_
    · rintro i y H9 H10 hi ⟨s9, ts, hT, tl, qT⟩ ⟨rfl, hy⟩
      obtain ⟨l, hl, q', rfl, hz, tl'⟩ : ∃ l, [gAdd xs c, gRem xs c][i]? = some l ∧ ∃ q', y = .ref q' ∧ Tz H8 q' (l.map V.str) ∧ (tam (.tuple (l.map PyData.str)) = true ∧ (PyData.tuple (l.map PyData.str)).depth ≤ 2) := by
        match i, hy with
        | 0, hy => cases hy; exact ⟨_, rfl, _, rfl, z3, tA⟩
        | 1, hy => cases hy; exact ⟨_, rfl, _, rfl, z6, tR⟩
      refine ⟨rfl, ?_⟩
      dsimp only [tYes]
      refine iteT ?_
      have ft := tam.fits tl'.1 (by omega)
      have hi' : i < 2 := hi
      refine ⟨_, rfl, _, _, rfl, .tup (hz.same s9) (dns_strs l), ft.1, ft.2.1, ft.2.2, (by show 2 ≤ sizeLine; decide), fun t o11 n11 s11 z11 => ?_⟩
      generalize upd _ t o11 = H11 at s11 z11 ⊢
      refine ⟨ts, s11 _ _ hT, small200 (by omega), same_upd2 (s9.trans s11) nD2, _, upd_same, (by rw [List.length_append, tl]; rfl), ?_⟩
      rw [List.take_add_one, hl, List.map_append]
      exact acc_push (s11 _ _ hT) (qT.same s11) ⟨_, _, rfl, by decide +kernel, tam.so tl'.1⟩ (dn_T2 z11)
    rintro H9 ⟨s9, ts, hT, tl, qT⟩
    have dT2 : Dn K H9 (.ref D2) (.list [toldD 0 (reld xs c) .none, toldD 1 (reld xs c) .none]) := by
      rw [told_got iv got_0, told_got iv got_1]
      exact .lst hT qT.dns
    clear hT tl qT
    have sh := tx_two (told_tx (k := 0) (e := .none) tv rfl) (told_tx (k := 1) (e := .none) tv rfl)
    refine ⟨_, _, (dT.same s9).dp sh.1, dT2.dp sh.1, sh.2, sh.2, _, rfl, ?_⟩
    rw [SeqAt.eqv_refl _ sh.1]
    refine iteF ?_
    have s09 := s08.trans s9
    clear dT dT2 sh z3 z6 s08 s9
    -- the hosts
    have hl9 := s09 _ _ hl
    refine ⟨_, rfl, la, rfl, ⟨_, SqL.of hl9⟩, ?_⟩
    refine for_it (walk_list (K := K) (a := la) (xs := ns.map V.str)) (fun i σ H' => (∃ a6 a7 a8 a9 a10 a11, σ = [some (.ref a), some (.ref la), some (.ref a2), some (.ref b), some (.int (c : Int)), some (.ref lD), a6, a7, a8, a9, a10, a11]) ∧ Same H9 H')
      ⟨⟨_, _, _, _, _, _, rfl⟩, Same.refl _⟩ (fun _ _ _ _ h => SqL.of (h.2 _ _ hl9)) ?_ ?_
    · rintro i y σ H10 H11 hi ⟨⟨a6, a7, a8, a9, a10, a11, rfl⟩, s10⟩ ⟨rfl, hy⟩
      rw [List.getElem?_map] at hy
      obtain ⟨n, hn, rfl⟩ := Option.map_eq_some_iff.mp hy
      have tn := tam_nm (nm n (List.mem_of_getElem? hn))
      have s0 := s09.trans s10
      refine ⟨_, rfl, _, rfl, 2, _, _, _, _, rfl, by decide, by decide, dn_reld (ha.same s0) (hb.same s0), .str n, tv, tn, dpt _ _, Nat.zero_le _, fun H12 t1 s12 d1 => ?_⟩
      have s0 := s0.trans s12
      refine ⟨_, rfl, _, rfl, 3, _, _, _, _, rfl, by decide, by decide, dn_reld (ha.same s0) (hb.same s0), .str n, tv, tn, dpt _ _, Nat.zero_le _, fun H13 t2 s13 d2 => ?_⟩
      have s0 := s0.trans s13
      refine ⟨(by show 2 ≤ sizeLine; decide), fun l14 n14 => ?_⟩
      generalize hg : upd _ l14 _ = H14
      obtain ⟨s14, g14⟩ := upd_new hg n14
      clear hg
      have s0 := s0.trans s14
      have dL : Dn K H14 (.ref l14) (.list [toldD 2 (reld xs c) (.str n), toldD 3 (reld xs c) (.str n)]) := .lst g14 (.cons (d1.same (s13.trans s14)) (.cons (d2.same s14) .nil))
      clear g14 d1 d2
      have ft := fits_nm tn
      refine ⟨_, rfl, _, _, rfl, .str n, ft.1, ft.2.1, ft.2.2, (by show 2 ≤ sizeLine; decide), fun t15 o15 n15 s15 z15 => ?_⟩
      generalize upd _ t15 o15 = H15 at s15 z15 ⊢
      refine ⟨(by show 1 ≤ sizeLine; decide), fun l16 n16 => ?_⟩
      generalize hg : upd _ l16 _ = H16
      obtain ⟨s16, g16⟩ := upd_new hg n16
      clear hg
      refine ⟨l16, 2, _, rfl, rfl, g16, by decide, by decide, (by show 1 * 2 ≤ sizeLine; decide), fun l17 n17 => ?_⟩
      generalize hg : upd _ l17 _ = H17
      obtain ⟨s17, g17⟩ := upd_new hg n17
      clear hg
      have g17 : H17 l17 = some (.lst [.ref t15, .ref t15]) := g17
      have s47 := s15.trans (s16.trans s17)
      have dH : Dn K H17 (.ref l17) (.list [T2 "host" (PyData.shown (.str n)), T2 "host" (PyData.shown (.str n))]) := .lst g17 (.cons (dn_T2 (z15.same (s16.trans s17))) (.cons (dn_T2 (z15.same (s16.trans s17))) .nil))
      clear g16 g17 z15
      have s0 := s0.trans s47
      have dL := dL.same s47
      have sx := s10.trans (s12.trans (s13.trans (s14.trans s47)))
      clear s12 s13 s14 s15 s16 s17 s47 s10
      have sh := tx_two (told_tx (k := 2) tv tn) (told_tx (k := 3) tv tn)
      refine ⟨_, rfl, _, rfl, b, _, rfl, .inr (hb.same s0).sq, rfl, flat_strs xs, _, rfl, ite2 (fun c1 => ?_) (fun c1 => ?_)⟩
      · have c1' : inV (.str n) (xs.map V.str) = true := c1
        rw [inV_strs] at c1'
        have mn := of_decide_eq_true c1'
        have lt := List.idxOf_lt_length_of_mem mn
        have pn : posn xs (.str n) = some (xs.idxOf n) := if_pos mn
        have e2 : toldD 2 (reld xs c) (.str n) = T2 "told" (PyData.shown (.int (xs.idxOf n : Nat))) := told_got iv (got_2.trans (by rw [pn]; rfl))
        have e3 : toldD 3 (reld xs c) (.str n) = T2 "told" (PyData.shown (.bool (decide (xs.idxOf n ≤ c)))) := told_got iv (got_3.trans (by rw [pn]; rfl))
        have ix1 : xs[xs.idxOf n]? = some n := by rw [List.getElem?_eq_getElem lt, List.getElem_idxOf]
        have ix2 : ∀ j, j < xs.idxOf n → xs[j]? ≠ some n := by
          intro j lj ej
          have lj2 : j < xs.length := Nat.lt_trans lj lt
          rw [List.getElem?_eq_getElem lj2] at ej
          injection ej with ej
          exact absurd (ej.trans (List.getElem_idxOf lt).symm) (List.pairwise_iff_getElem.mp nd j _ lj2 lt lj)
        have fi := tam.fits (d := .int (xs.idxOf n : Nat)) (decide_eq_true (by omega)) (Nat.zero_le _)
        have fb := tam.fits (d := .bool (decide (((xs.idxOf n : Nat) : Int) ≤ (c : Int)))) rfl (Nat.zero_le _)
        refine ⟨_, rfl, ⟨b, _, rfl, hb.same s0⟩, _, rfl, b, xs, n, xs.idxOf n, rfl, rfl, (hb.same s0).sq, ix1, ix2, ?_⟩
        refine ⟨_, _, rfl, .int _, fi.1, fi.2.1, fi.2.2, (by show 2 ≤ sizeLine; decide), fun t18 o18 n18 s18 z18 => ?_⟩
        generalize upd _ t18 o18 = H18 at s18 z18 ⊢
        have s0 := s0.trans s18
        refine ⟨_, rfl, ⟨b, _, rfl, hb.same s0⟩, _, rfl, b, xs, n, xs.idxOf n, rfl, rfl, (hb.same s0).sq, ix1, ix2, ?_⟩
        refine ⟨_, rfl, _, _, rfl, rfl, ?_⟩
        refine ⟨_, _, rfl, .bl _, fb.1, fb.2.1, fb.2.2, (by show 2 ≤ sizeLine; decide), fun t19 o19 n19 s19 z19 => ?_⟩
        generalize upd _ t19 o19 = H19 at s19 z19 ⊢
        refine ⟨(by show 2 ≤ sizeLine; decide), fun l20 n20 => ?_⟩
        generalize hg : upd _ l20 _ = H20
        obtain ⟨s20, g20⟩ := upd_new hg n20
        clear hg
        have dX : Dn K H20 (.ref l20) (.list [toldD 2 (reld xs c) (.str n), toldD 3 (reld xs c) (.str n)]) := by
          rw [e2, e3, show decide (xs.idxOf n ≤ c) = decide (((xs.idxOf n : Nat) : Int) ≤ (c : Int)) by congr 1; rw [eq_iff_iff]; omega]
          exact .lst g20 (.cons (dn_T2 (z18.same (s19.trans s20))) (.cons (dn_T2 (z19.same s20)) .nil))
        have s70 := s18.trans (s19.trans s20)
        refine ⟨_, rfl, _, rfl, _, _, (dL.same s70).dp sh.1, dX.dp sh.1, sh.2, sh.2, _, rfl, ?_⟩
        rw [SeqAt.eqv_refl _ sh.1]
        exact iteF ⟨⟨_, _, _, _, _, _, rfl⟩, sx.trans s70⟩
      · have c1' : ¬ inV (.str n) (xs.map V.str) = true := c1
        rw [inV_strs] at c1'
        have pn : posn xs (.str n) = none := if_neg fun z => c1' (decide_eq_true z)
        have e2 : toldD 2 (reld xs c) (.str n) = T2 "host" (PyData.shown (.str n)) := told_host iv (got_2.trans (by rw [pn]; rfl)) (by decide)
        have e3 : toldD 3 (reld xs c) (.str n) = T2 "host" (PyData.shown (.str n)) := told_host iv (got_3.trans (by rw [pn]; rfl)) (by decide)
        have dX : Dn K H17 (.ref l17) (.list [toldD 2 (reld xs c) (.str n), toldD 3 (reld xs c) (.str n)]) := by
          rw [e2, e3]
          exact dH
        refine ⟨_, rfl, _, rfl, _, _, dL.dp sh.1, dX.dp sh.1, sh.2, sh.2, _, rfl, ?_⟩
        rw [SeqAt.eqv_refl _ sh.1]
        exact iteF ⟨⟨_, _, _, _, _, _, rfl⟩, sx⟩
    rintro σ H10 ⟨⟨a6, a7, a8, a9, a10, a11, rfl⟩, s10⟩
    have s0 := s09.trans s10
    clear s09 s10 hl9
    -- apart
    refine ⟨_, rfl, b, rfl, ⟨_, (hb.same s0).sq⟩, fun D nD => ?_⟩
    refine lc_it (walk_tup (K := K) (a := b) (xs := xs.map V.str)) (fun i H' => Same H10 H' ∧ H' D = some (.lst (((xs.take i).map fun x => !decide (x ∈ ys)).map V.bl))) ⟨same_upd nD, upd_same⟩ (fun i H' _ h => (hb.same (s0.trans h.1)).sq) ?_ ?_
    · rintro i y H11 H12 hi ⟨s11, hL⟩ ⟨rfl, hy⟩
      rw [List.getElem?_map] at hy
      obtain ⟨x, hx, rfl⟩ := Option.map_eq_some_iff.mp hy
      refine ⟨rfl, ?_⟩
      dsimp only [tYes]
      refine iteT ?_
      refine ⟨_, rfl, _, rfl, a2, _, 0, _, rfl, rfl, (ha2.same (s0.trans s11)).sq, atI_nat (j := 0) rfl, b2, _, rfl, .inr (hb2.same (s0.trans s11)).sq, rfl, flat_strs ys, ?_⟩
      show ∃ zs, _ ∧ _
      refine ⟨_, hL, ?_, same_upd2 s11 nD, ?_⟩
      · rw [List.length_map, List.length_map, List.length_take]
        exact small200 (by omega)
      · rw [upd_same, List.take_add_one, hx, List.map_append, List.map_append]
        show some (HO.lst (_ ++ [V.bl (!inV (.str x) (ys.map V.str))])) = _
        rw [inV_strs]
        rfl
    rintro H11 ⟨s11, hL⟩
    rw [List.length_map, List.take_of_length_le (Nat.le_refl _)] at hL
    refine ⟨D, _, rfl, SqL.of hL, ?_⟩
    have eap : (xs.map fun x => !decide (x ∈ ys)).all id = apart xs ys := by
      rw [List.all_map]
      unfold apart
      rw [List.not_any_eq_all_not]
      rfl
    rw [eap]
    have s0 := s0.trans s11
    clear s11 hL eap
    refine ⟨_, rfl, _, rfl, 4, _, _, _, _, rfl, by decide, by decide, dn_reld (ha.same s0) (hb.same s0), dn_reld (ha2.same s0) (hb2.same s0), tv, tu, dpt _ _, dpt _ _, fun H12 t1 s12 d1 => ?_⟩
    have s0 := s0.trans s12
    refine ⟨_, rfl, _, rfl, 4, _, _, _, _, rfl, by decide, by decide, dn_reld (ha2.same s0) (hb2.same s0), dn_reld (ha.same s0) (hb.same s0), tu, tv, dpt _ _, dpt _ _, fun H13 t2 s13 d2 => ?_⟩
    have s0 := s0.trans s13
    refine ⟨(by show 2 ≤ sizeLine; decide), fun l14 n14 => ?_⟩
    generalize hg : upd _ l14 _ = H14
    obtain ⟨s14, g14⟩ := upd_new hg n14
    clear hg
    have s0 := s0.trans s14
    have dL : Dn K H14 (.ref l14) (.list [toldD 4 (reld xs c) (reld ys m), toldD 4 (reld ys m) (reld xs c)]) := .lst g14 (.cons (d1.same (s13.trans s14)) (.cons (d2.same s14) .nil))
    have fb := tam.fits (d := .bool (apart xs ys)) rfl (Nat.zero_le _)
    refine ⟨_, rfl, _, _, rfl, .bl _, fb.1, fb.2.1, fb.2.2, (by show 2 ≤ sizeLine; decide), fun t15 o15 n15 s15 z15 => ?_⟩
    generalize upd _ t15 o15 = H15 at s15 z15 ⊢
    refine ⟨(by show 1 ≤ sizeLine; decide), fun l16 n16 => ?_⟩
    generalize hg : upd _ l16 _ = H16
    obtain ⟨s16, g16⟩ := upd_new hg n16
    clear hg
    refine ⟨l16, 2, _, rfl, rfl, g16, by decide, by decide, (by show 1 * 2 ≤ sizeLine; decide), fun l17 n17 => ?_⟩
    generalize hg : upd _ l17 _ = H17
    obtain ⟨s17, g17⟩ := upd_new hg n17
    clear hg
    have g17 : H17 l17 = some (.lst [.ref t15, .ref t15]) := g17
    have s47 := s15.trans (s16.trans s17)
    have e1 : toldD 4 (reld xs c) (reld ys m) = T2 "told" (PyData.shown (.bool (apart xs ys))) := told_got iv (got_4.trans (by rw [if_pos iu, relOf_reld]))
    have e2 : toldD 4 (reld ys m) (reld xs c) = T2 "told" (PyData.shown (.bool (apart xs ys))) := told_got iu (got_4.trans (by rw [if_pos iv, relOf_reld, apart_comm]))
    have dX : Dn K H17 (.ref l17) (.list [toldD 4 (reld xs c) (reld ys m), toldD 4 (reld ys m) (reld xs c)]) := by
      rw [e1, e2]
      exact .lst g17 (.cons (dn_T2 (z15.same (s16.trans s17))) (.cons (dn_T2 (z15.same (s16.trans s17))) .nil))
    have sh := tx_two (told_tx (k := 4) tv tu) (told_tx (k := 4) tu tv)
    refine ⟨_, _, (dL.same s47).dp sh.1, dX.dp sh.1, sh.2, sh.2, ?_⟩
    rw [SeqAt.eqv_refl _ sh.1]
    exact q _ (s0.trans s47)
end
end My

/-! v == text, for any value of data. -/
namespace Gy
open PySem PySem.Spec PyProof.Rows L2 Xt
theorem dict_no_str (l : Addr) (es : Array DictEntry) (ep : Nat) (dd : Option Addr) (sl : Array (Option Value)) (b : Str) (u : Tok) :
    Meets (Builtin.«dict.__eq__» ⟨[.ref l, .str b u], []⟩) (fun _ R s => s.heap.get? l = some ⟨.type "dict", dd, .dict es ep, sl⟩ ∧ R (.ok (.ret .notImplemented)) s) := by
  refine .of_wp fun prog w A R s h => ?_
  obtain ⟨hp, g, d, tk, os⟩ := s
  obtain ⟨hl, h⟩ := h
  have f1 : isSubtype (.type "str") (.type "dict") = pure false := by rw [isSubtype_type]; kernel_rfl
  wp_walk using wpAny_loadPart' hl, wpAny_load hl
  exact ⟨_, rfl, h⟩
theorem str_no_dict (l : Addr) (es : Array DictEntry) (ep : Nat) (dd : Option Addr) (sl : Array (Option Value)) (b : Str) (u : Tok) :
    Meets (Builtin.«str.__eq__» ⟨[.str b u, .ref l], []⟩) (fun _ R s => s.heap.get? l = some ⟨.type "dict", dd, .dict es ep, sl⟩ ∧ R (.ok (.ret .notImplemented)) s) := by
  refine .of_wp fun prog w A R s h => ?_
  obtain ⟨hp, g, d, tk, os⟩ := s
  obtain ⟨hl, h⟩ := h
  wp_walk using wpAny_loadPart' hl, wpAny_load hl
  exact ⟨_, rfl, h⟩
theorem rc_dict_str {A : Around} {s : Shared} {l : Addr} {o : Obj} {es : Array DictEntry} {ep : Nat} (b : Str) (u : Tok) (ho : s.heap.get? l = some o) (hc : o.cls = .type "dict") (hd : o.data = .dict es ep) (hu : A.units < cLine)
    {prog : Program} {w : World} {E Q : Value → Shared → Prop} (h : Q (.bool false) s) : wpAny (model prog w) A (richCompare .Eq (.ref l) (.str b u)) Q E s := by
  obtain ⟨cls, dd, dat, sl⟩ := o
  dsimp only at hc hd
  subst hc hd
  refine SeqAt.rc_eq_decline_or (k := false) ⟨_, ho, rfl⟩ (typeIs_str s b u) (by decide) F.sub_str_dict F.slot_dict_eq F.slot_str_eq_refl ?_ ?_ ?_ (.inr hu) h
  · exact fun _ q => call_meets F.slot_dict_eq ⟨_, ho, rfl⟩ F.entry_dict_eq (F.args_dict_eq_2 _ _) (dict_no_str l es ep dd sl b u) ⟨ho, q⟩
  · exact fun _ q => call_meets F.slot_str_eq_refl (typeIs_str s b u) F.entry_str_eq (F.args_str_eq_2 _ _) (str_no_dict l es ep dd sl b u) ⟨ho, q⟩
  · exact fun _ q => wpAny_of_eq (rfl : isSame (.ref l) (.str b u) = pure false) q
/-- whether it is this text -/
def isTx (x : Str) : PyData → Bool
  | .str y => decide (V.str y = V.str x)
  | _ => false
def rEqS (K : PySem.W.Frag) : R2 := fun a b H Q => ∃ (d : PyData) (x : Str), b = .str x ∧ Dn K H a d ∧ Q (.bl (isTx x d)) H
theorem op_eqS {X : Cx} (hu : X.A.units < cLine) : OpR X (compareOp .Eq) (rEqS X.K) := by
  intro pins s σ H a b v u Q I rx ry h
  obtain ⟨d, x, rfl, dn, q⟩ := h
  cases dn with
  | non => exact op_eq pins s σ H _ _ v u Q I rx ry ⟨rfl, q⟩
  | bl c => exact op_eq pins s σ H _ _ v u Q I rx ry ⟨rfl, q⟩
  | int i => exact op_eq pins s σ H _ _ v u Q I rx ry ⟨rfl, q⟩
  | str y => exact op_eq pins s σ H _ _ v u Q I rx ry ⟨rfl, q⟩
  | lst h1 _ =>
    cases rx
    obtain ⟨t, rfl⟩ := ry
    obtain ⟨its, _, hl, _⟩ := I.list (SqL.of h1)
    exact SeqAt.RcAt.list_str x t hl.isList hu _ _ _ _ ⟨.bl false, H, I, rfl, q⟩
  | tup h1 _ =>
    cases rx
    obtain ⟨t, rfl⟩ := ry
    obtain ⟨its, _, ht, _⟩ := I.tuple h1.sq
    exact SeqAt.RcAt.tuple_str x t ht hu _ _ _ _ ⟨.bl false, H, I, rfl, q⟩
  | dic h1 =>
    cases rx
    obtain ⟨t, rfl⟩ := ry
    obtain ⟨_, o, es, ep, g1, g2, g3, _, _⟩ := dict_at I h1
    exact rc_dict_str x t g1 g2 g3 hu ⟨.bl false, H, I, rfl, q⟩
end Gy

/-! v not in a tuple of texts, for any value of data. -/
namespace Gy
open PySem PySem.Spec PyProof.Rows L2 Xt
theorem rc_str_dict {A : Around} {s : Shared} {l : Addr} {o : Obj} {es : Array DictEntry} {ep : Nat} (b : Str) (u : Tok) (ho : s.heap.get? l = some o) (hc : o.cls = .type "dict") (hd : o.data = .dict es ep) (hu : A.units < cLine)
    {prog : Program} {w : World} {E Q : Value → Shared → Prop} (h : Q (.bool false) s) : wpAny (model prog w) A (richCompare .Eq (.str b u) (.ref l)) Q E s := by
  obtain ⟨cls, dd, dat, sl⟩ := o
  dsimp only at hc hd
  subst hc hd
  refine SeqAt.rc_eq_decline_or (k := false) (typeIs_str s b u) ⟨_, ho, rfl⟩ (by decide) F.sub_dict_str F.slot_str_eq F.slot_dict_eq_refl ?_ ?_ ?_ (.inr hu) h
  · exact fun _ q => call_meets F.slot_str_eq (typeIs_str s b u) F.entry_str_eq (F.args_str_eq_2 _ _) (str_no_dict l es ep dd sl b u) ⟨ho, q⟩
  · exact fun _ q => call_meets F.slot_dict_eq_refl ⟨_, ho, rfl⟩ F.entry_dict_eq (F.args_dict_eq_2 _ _) (dict_no_str l es ep dd sl b u) ⟨ho, q⟩
  · exact fun _ q => wpAny_of_eq (rfl : isSame (.str b u) (.ref l) = pure false) q
theorem eq_str_dict {A : Around} {s : Shared} {l : Addr} {o : Obj} {es : Array DictEntry} {ep : Nat} (b : Str) (u : Tok) (ho : s.heap.get? l = some o) (hc : o.cls = .type "dict") (hd : o.data = .dict es ep) (hu : A.units < cLine) : SeqAt.EqAt A s (.str b u) (.ref l) false := fun prog w E Q h => by
  unfold eqBool
  refine wpAny_holding ?_
  refine wpAny_ite_split (fun hab => absurd (eq_of_beq hab) nofun) (fun _ => ?_)
  exact wpAny_bind (rc_str_dict b u ho hc hd hu (wpAny_truthy_bool h))
/-- whether it is one of these texts -/
def memD (xs : List Str) : PyData → Bool
  | .str x => inV (.str x) (xs.map V.str)
  | _ => false
def rNotInT (K : PySem.W.Frag) : R2 := fun a b H Q => ∃ (p : Addr) (d : PyData) (xs : List Str), b = .ref p ∧ SqT K H p (xs.map V.str) ∧ Dn K H a d ∧ Q (.bl (!memD xs d)) H
theorem strs_of : ∀ {xs : List Str} {us : List Value}, Vals (xs.map V.str) us → ∀ u ∈ us, ∃ a t, u = .str a t
  | [], _, .nil => fun u hu => by cases hu
  | x :: xs, _, .cons r t => fun u hu => by
    obtain ⟨tk, rfl⟩ := r
    rcases List.mem_cons.mp hu with rfl | hu
    · exact ⟨_, _, rfl⟩
    · exact strs_of t u hu
theorem flats (xs : List Str) : (xs.map V.str).all flatV = true := by
  induction xs with
  | nil => rfl
  | cons x xs ih => rw [List.map_cons, List.all_cons, ih]; rfl
theorem inV_no {v : V} (h : ∀ x, eqV (.str x) v = false) (xs : List Str) : inV v (xs.map V.str) = false := by
  unfold inV
  rw [List.any_map, List.any_eq_false]
  intro x _
  show ¬ eqV (.str x) v = true
  rw [h]
  exact Bool.false_ne_true
theorem op_notInT {X : Cx} (hu : X.A.units + 64 < cLine) : OpR X (compareOp .NotIn) (rNotInT X.K) := by
  intro pins s σ H a b v u Q I rx ry h
  obtain ⟨p, d, xs, rfl, hs, dn, q⟩ := h
  have hu1 : X.A.in1.units < cLine := by
    have : X.A.in1.units = X.A.units + 1 := rfl
    omega
  have go : (∀ (b : Str) (t : Tok), SeqAt.EqAt X.A.in1 s (.str b t) v false) → (Q (.bl true) H) → wpAny (model X.prog X.w) X.A (compareOp .NotIn v u) (EP X pins σ Q) X.xe s := fun he q => by
    cases ry
    obtain ⟨its, r, pl, hz⟩ := I.tuple hs
    refine SeqAt.notIn_tupleAt (fun _ => false) pl (fun w hw => ?_) ⟨.bl true, H, I, ?_, q⟩
    · obtain ⟨b, t, rfl⟩ := strs_of r w (by simpa using hw)
      exact he b t
    · have : (its.toArray.any fun _ => false) = false := by simp
      rw [this]
      rfl
  have fl : flatV a = true → Q (.bl (!inV a (xs.map V.str))) H → _ := fun fx q => op_notIn_seq pins s σ H a (.ref p) v u Q I rx ry ⟨p, _, rfl, .inr hs, fx, flats xs, q⟩
  cases dn with
  | non => exact fl rfl (by rw [inV_no (fun _ => rfl)]; exact q)
  | bl c => exact fl rfl (by rw [inV_no (fun _ => rfl)]; exact q)
  | int i => exact fl rfl (by rw [inV_no (fun _ => rfl)]; exact q)
  | str y => exact fl rfl q
  | lst h1 _ =>
    cases rx
    obtain ⟨its, _, hl, _⟩ := I.list (SqL.of h1)
    exact go (fun b t => SeqAt.EqAt.str_list b t hl.isList hu1) q
  | tup h1 _ =>
    cases rx
    obtain ⟨its, _, ht, _⟩ := I.tuple h1.sq
    exact go (fun b t => SeqAt.EqAt.str_tuple b t ht hu1) q
  | dic h1 =>
    cases rx
    obtain ⟨_, o, es, ep, g1, g2, g3, _, _⟩ := dict_at I h1
    exact go (fun b t => eq_str_dict b t g1 g2 g3 hu1) q
end Gy

namespace My
open PySem PySem.Spec PyProof.Rows L2 Gy Xl Xs Xt
theorem tx_five {t : PyData} (h : Tx t) : (PyData.list [t, t, t, t, t]).canLay0 = true ∧ SeqAt.shaped (.list [t, t, t, t, t]) = true := by
  have a : (PyData.list [t, t, t, t, t]).canLay0 = true := by
    show (t.canLay0 && (t.canLay0 && (t.canLay0 && (t.canLay0 && (t.canLay0 && true))))) = true
    rw [(tx_lay h).1]
    rfl
  refine ⟨a, ?_⟩
  unfold SeqAt.shaped
  rw [a]
  obtain ⟨_, _, rfl, _⟩ := h
  rfl
theorem posn_no {xs : List Str} {d : PyData} (h : memD xs d = false) : posn xs d = none := by
  cases d with
  | str x =>
    have h' : inV (.str x) (xs.map V.str) = false := h
    rw [inV_strs] at h'
    exact if_neg (of_decide_eq_false h')
  | _ => rfl
section
variable {P : Program} {w : World} {K : PySem.W.Frag} {mg : Str → Option Value} {base : Heap} {H : Hp}
def spVal (K : PySem.W.Frag) : Sp := fun vs H Q _ => ∃ (r la : Addr) (v u : V) (d : PyData) (n0 : Str) (ns ys : List Str) (m : Nat), vs = [.ref r, v, .ref la, u] ∧ Rng H r ∧ la ≠ r ∧ H la = some (.lst ((n0 :: ns).map V.str)) ∧ (∀ x ∈ n0 :: ns, Nm x) ∧ Db K r H v d ∧ tam d = true ∧ d.depth ≤ 4 ∧
  Db K r H u (reld ys m) ∧ isRel (reld ys m) = true ∧ tam (reld ys m) = true ∧ ∀ H', But r H H' → Rng H' r → Q (.bl true) H'
theorem ok_val {f : Addr} {fd : FuncData} (F : Fun K "_law_value_right" "_law_value_right" s_law_value_right f fd) (Y : Bn mg) (G_is_relink : Fk P w K mg base CX0 4 "is_relink" ["value"] (spRel K)) (G_law_is_right : Fk P w K mg base CX0 2 "_law_is_right" ["_law_value"] (spRel K)) (G_law_odd : Fk P w K mg base CX0 2 "_law_odd" ["_law_rng_here"] (spOdd K))
    (G_law_told : Fg P w K mg base CX0 9 "_law_told" ["_law_kind", "_law_value", "_law_name"] (spTold K)) (G_law_links_right : Fg P w K mg base CX0 10 "_law_links_right" ["_law_value", "_law_names_here", "_law_second"] (spLks K)) : FnG P w K mg base CX0 11 f fd ["_law_rng_here", "_law_value", "_law_names_here", "_law_second"] (spVal K) := by
  refine fun_g0 F sc_law_value_right (fun {vs H Q E} h => ?_) (fun cdv A outer s H vs Q E gd hr h => ?_)
  · obtain ⟨r, la, v, u, d, n0, ns, ys, m, rfl, _⟩ := h
    rfl
  · obtain ⟨r, la, v, u, d, n0, ns, ys, m, rfl, R, nl, hl, nm, dv, td, pd, du, iu, tu, q⟩ := h
    have hu70 := Room.units70 hr
    have hu64 := hr.units
    refine ⟨_, (pss_cons (ps_par (i := 4) (j := 5) (by rfl) sc_law_value_right.nd rfl rfl (by decide) rfl rfl (pa_cons (pe_callB (show CallR _ (.builtin "repr") (rReprN K) from repr_dn gd hu70) (by rfl) Y.repr (by decide +kernel) (pa_cons (pv 1) pa_nil)) (pa_cons (pe_callF G_law_is_right (hr.mono (by decide)) (by rfl) pass0 (pa_cons (pv 1) pa_nil)) pa_nil)) (by rfl))
 (pss_cons (ps_if (pt_cmpR op_ne (pe_callB (show CallR _ (.builtin "repr") (rReprN K) from repr_dn gd hu70) (by rfl) Y.repr (by decide +kernel) (pa_cons (pe_lst (pa_cons (pe_callF G_is_relink (hr.mono (by decide)) (by rfl) pass0 (pa_cons (pv 1) pa_nil)) (pa_cons (pe_callF G_is_relink (hr.mono (by decide)) (by rfl) pass0 (pa_cons (pv 1) pa_nil)) pa_nil))) pa_nil)) (pe_callB (show CallR _ (.builtin "repr") (rReprN K) from repr_dn gd hu70) (by rfl) Y.repr (by decide +kernel) (pa_cons (pe_lst (pa_cons (pv 5) (pa_cons (pv 5) pa_nil))) pa_nil)) (nomark _))
 (pss_one (ps_ret pe_bl))
 pss_nil)
 (pss_cons (ps_set (i := 6) sc_law_value_right.nd rfl (.inr rfl) (pe_callF G_law_odd (hr.mono (by decide)) (by rfl) pass0 (pa_cons (pv 0) pa_nil)))
 (pss_cons (ps_if (PW.pt (pw_and (pt_val (pv 5)) (pw_and1 (pt_not (pt_val (pe_callFg (E := E0) G_law_links_right gd (hr.mono (by decide)) (by rfl) pass0 (pa_cons (pv 1) (pa_cons (pv 2) (pa_cons (pv 3) pa_nil)))))))))
 (pss_one (ps_ret pe_bl))
 pss_nil)
 (pss_cons (ps_if (PW.pt (pw_and (pt_val (pv 5)) (pw_and1 (pt_cmpR (show OpR _ _ (rNotInT K) from op_notInT hu64) (pv 6) (pe_ix (show IxR _ (rIxT K) from ix_tup) (pv 1) pe_int (fun _ _ => rfl)) rfl))))
 (pss_one (ps_if (pt_cmpR (op_neD hu64) (pe_lc (own := [("_law_kind", 8)]) (g := gName 8) (tt := tYes) rfl sc_law_value_right.nd (pi_tup (pe_tupZ (pa_cons pe_int (pa_cons pe_int pa_nil)))) (blkOk_by (N := ["_law_rng_here", "_law_value", "_law_names_here", "_law_second", "_law_shown", "_law_due", "_law_odd_here", "_law_told_here", "_law_kind"]) (sc := defScope s_law_value_right) (by decide +kernel)) (fun _ _ _ _ _ => (pg_name (i := 8) sc_law_value_right.nd rfl (Or.inl rfl))) (fun _ _ _ _ _ => pts_nil) (fun _ _ _ _ _ => (pe_callFg (E := E0) G_law_told gd (hr.mono (by decide)) (by rfl) pass0 (pa_cons (pv 8) (pa_cons (pv 1) (pa_cons (pv 6) pa_nil)))))) (pe_op op_rep (pe_lst (pa_cons (pe_tupZ (pa_cons pe_str (pa_cons (pe_callB (show CallR _ (.builtin "repr") (rReprN K) from repr_dn gd hu70) (by rfl) Y.repr (by decide +kernel) (pa_cons (pv 6) pa_nil)) pa_nil))) pa_nil)) pe_int) (nomark _))
 (pss_one (ps_ret pe_bl))
 pss_nil))
 pss_nil)
 (pss_cons (ps_setLc (i := 7) (own := [("_law_kind", 8)]) (g := gName 8) (tt := tYes) rfl sc_law_value_right.nd rfl rfl (sw_true rfl rfl rfl (by decide +kernel)) (pi_range1 (by rfl) Y.range (pa_cons pe_int pa_nil)) (blkOk_by (N := ["_law_rng_here", "_law_value", "_law_names_here", "_law_second", "_law_shown", "_law_due", "_law_odd_here", "_law_told_here", "_law_kind"]) (sc := defScope s_law_value_right) (by decide +kernel)) (fun _ _ _ _ _ => (pg_name (i := 8) sc_law_value_right.nd rfl (Or.inl rfl))) (fun _ _ _ _ _ => pts_nil) (fun _ _ _ _ _ => (pe_callFg (E := E0) G_law_told gd (hr.mono (by decide)) (by rfl) pass0 (pa_cons (pv 8) (pa_cons (pv 1) (pa_cons (pe_ix (show IxR _ (rIxL K) from ix_list) (pv 2) pe_int (fun _ _ => rfl)) pa_nil))))))
 (pss_cons (ps_if (PW.pt (pw_and (pt_not (pt_val (pv 5))) (pw_and1 (pt_cmpR (op_neD hu64) (pv 7) (pe_op op_rep (pe_lst (pa_cons (pe_tupZ (pa_cons pe_str (pa_cons (pe_callB (show CallR _ (.builtin "repr") (rReprN K) from repr_dn gd hu70) (by rfl) Y.repr (by decide +kernel) (pa_cons (pv 1) pa_nil)) pa_nil))) pa_nil)) pe_int) (nomark _)))))
 (pss_one (ps_ret pe_bl))
 pss_nil)
 (pss_cons (ps_if (PW.pt (pw_and (pt_not (pt_val (pv 5))) (pw_and1 (pt_cmpR (op_neD hu64) (pe_callFg (E := E0) G_law_told gd (hr.mono (by decide)) (by rfl) pass0 (pa_cons pe_int (pa_cons (pv 3) (pa_cons (pv 1) pa_nil)))) (pe_tupZ (pa_cons pe_str (pa_cons (pe_callB (show CallR _ (.builtin "repr") (rReprN K) from repr_dn gd hu70) (by rfl) Y.repr (by decide +kernel) (pa_cons (pv 1) pa_nil)) pa_nil))) (nomark _)))))
 (pss_one (ps_ret pe_bl))
 pss_nil)
 (pss_one (ps_ret (pe_cmpR op_eq (pe_callB (show CallR _ (.builtin "repr") (rReprN K) from repr_dn gd hu70) (by rfl) Y.repr (by decide +kernel) (pa_cons (pv 1) pa_nil)) (pv 4) (nomark _)))))))))))), ?_⟩
    have sm := tam.sml td
    have ft := tam.fits td (by omega)
    have dpt : ∀ zs k, (reld zs k).depth ≤ 4 := fun zs k => by
      have z : PyData.depthAll (zs.map PyData.str) ≤ 0 := dep_of fun d hd => by
        obtain ⟨x, _, rfl⟩ := List.mem_map.mp hd
        exact Nat.zero_le _
      show max (PyData.depthAll (zs.map PyData.str) + 1) (max 0 0) + 1 ≤ 4
      omega
    have tn := tam_nm (nm n0 List.mem_cons_self)
    refine ⟨_, rfl, v, d, rfl, dv.dn, ft.1, ft.2.1, ft.2.2, ?_⟩
    refine ⟨_, rfl, v, d, rfl, dv.dn, sm, fun H1 s1 => ?_⟩
    refine ⟨_, _, rfl, ?_⟩
    have dv := dv.same s1
    have du := du.same s1
    have R := R.same s1
    have hl := s1 _ _ hl
    have b0 := But.of (r := r) s1
    clear s1
    refine ⟨_, rfl, v, d, rfl, dv.dn, sm, fun H2 s2 => ?_⟩
    refine ⟨_, rfl, v, d, rfl, (dv.same s2).dn, sm, fun H3 s3 => ?_⟩
    refine ⟨(by show 2 ≤ sizeLine; decide), fun l4 n4 => ?_⟩
    generalize hg : upd _ l4 _ = H4
    obtain ⟨s4, g4⟩ := upd_new hg n4
    clear hg
    have fL := tam.fits (d := .list [.bool (isRel d), .bool (isRel d)]) rfl (by show 1 ≤ 4; decide)
    refine ⟨_, _, rfl, .lst g4 (.cons (.bl _) (.cons (.bl _) .nil)), fL.1, fL.2.1, fL.2.2, ?_⟩
    refine ⟨_, rfl, _, rfl, (by show 2 ≤ sizeLine; decide), fun l5 n5 => ?_⟩
    generalize hg : upd _ l5 _ = H5
    obtain ⟨s5, g5⟩ := upd_new hg n5
    clear hg
    refine ⟨_, _, rfl, .lst g5 (.cons (.bl _) (.cons (.bl _) .nil)), fL.1, fL.2.1, fL.2.2, rfl, _, rfl, ?_⟩
    generalize PyData.shown (.list [.bool (isRel d), .bool (isRel d)]) = sh0
    refine iteNS rfl ?_
    have s15 := s2.trans (s3.trans (s4.trans s5))
    have dv := dv.same s15
    have du := du.same s15
    have R := R.same s15
    have hl := s15 _ _ hl
    have b0 := b0.trans (But.of s15)
    clear s15 s2 s3 s4 s5 g4 g5 fL
    refine ⟨_, rfl, r, rfl, R, fun HO ov od bO RO dO tO pO => ?_⟩
    have dv := (dv.but bO).dn
    have du := (du.but bO).dn
    have dO := dO.dn
    have hl := bO _ _ nl hl
    have q : ∀ H', Same HO H' → Q (.bl true) H' := fun H' s => q _ (b0.trans (bO.trans (But.of s))) (RO.same s)
    have tO := tm_tam (tm_mono (show 2 ≤ 14 by decide) tO)
    clear b0 bO RO R
    have hb : ∃ bb, bb = isRel d := ⟨_, rfl⟩
    obtain ⟨bb, hb⟩ := hb
    rw [← hb]
    cases bb with
    | true =>
      have ir : isRel d = true := hb.symm
      obtain ⟨xs, c, rfl, l3, nd, kl, _⟩ := rel_parts ir
      obtain ⟨a, b, rfl, ha, hbb⟩ := rel_heap dv
      refine ⟨_, rfl, _, rfl, iteT ?_⟩
      refine ⟨_, rfl, _, rfl, _, rfl, _, _, _, xs, ys, n0 :: ns, c, m, rfl, dv, du, ir, iu, td, tu, hl, nm, fun H1 s1 => ?_⟩
      refine ⟨_, rfl, iteF ?_⟩
      have goal : ∀ HX, Same HO HX → ∀ {G : Hp → Prop}, (∀ H8, Same HX H8 → G H8) → G HX := fun HX _ G h => h HX (Same.refl _)
      refine ⟨_, rfl, _, rfl, iteT ?_⟩
      refine ⟨_, rfl, _, rfl, a, _, 0, .ref b, rfl, rfl, (ha.same s1).sq, atI_nat (j := 0) rfl, b, od, xs, rfl, (hbb.same s1).sq, dO.same s1, _, rfl, ite2 (fun c1 => ?A) (fun c1 => ?B)⟩
      case' A =>
        have np : posn xs od = none := posn_no (by
          cases z : memD xs od with
          | false => rfl
          | true => rw [z] at c1; cases c1)
        have e2 : toldD 2 (reld xs c) od = T2 "host" od.shown := told_host ir (got_2.trans (by rw [np]; rfl)) (by decide)
        have e3 : toldD 3 (reld xs c) od = T2 "host" od.shown := told_host ir (got_3.trans (by rw [np]; rfl)) (by decide)
        have fo := tam.fits tO (by omega)
        refine ⟨(by show 2 ≤ sizeLine; decide), fun tk o2 n2 s2 z2 => ?_⟩
        generalize upd _ tk o2 = H2 at s2 z2 ⊢
        refine ⟨tk, rfl, ⟨_, z2.sq⟩, fun D nD => ?_⟩
        have s02 := s1.trans s2
        refine lc_it (walk_tup (K := K) (a := tk) (xs := [.int 2, .int 3])) (fun i H' => Same H2 H' ∧ ∃ ts, H' D = some (.lst ts) ∧ ts.length = i ∧ Dbs K D H' ts (([2, 3].take i).map fun (j : Int) => toldD j (reld xs c) od)) ⟨same_upd nD, [], upd_same, rfl, .nil⟩ (fun i H' _ h => (z2.same h.1).sq) ?_ ?_
        · rintro i y H8 H9 hi ⟨s8, ts, hT, tl, qT⟩ ⟨rfl, hy⟩
          obtain ⟨j, hj, rfl, j0, j4⟩ : ∃ j : Int, [(2 : Int), 3][i]? = some j ∧ y = .int j ∧ 0 ≤ j ∧ j ≤ 4 := by
            match i, hy with
            | 0, hy => cases hy; exact ⟨_, rfl, rfl, by decide, by decide⟩
            | 1, hy => cases hy; exact ⟨_, rfl, rfl, by decide, by decide⟩
          have hi' : i < 2 := hi
          refine ⟨rfl, ?_⟩
          dsimp only [tYes]
          refine iteT ?_
          refine ⟨_, rfl, _, rfl, _, rfl, _, _, _, _, _, rfl, j0, j4, dv.same (s02.trans s8), dO.same (s02.trans s8), td, tO, pd, by omega, fun H10 t s10 dt => ?_⟩
          refine ⟨ts, s10 _ _ hT, small200 (by omega), same_upd2 (s8.trans s10) nD, _, upd_same, (by rw [List.length_append, tl]; rfl), ?_⟩
          rw [List.take_add_one, hj, List.map_append]
          exact acc_push (s10 _ _ hT) (qT.same s10) (told_tx td tO) dt
        rintro H8 ⟨s8, ts, hT, tl, qT⟩
        have dL : Dn K H8 (.ref D) (.list [toldD 2 (reld xs c) od, toldD 3 (reld xs c) od]) := .lst hT qT.dns
        have s08 := s02.trans s8
        refine ⟨_, rfl, _, _, rfl, dO.same s08, fo.1, fo.2.1, fo.2.2, (by show 2 ≤ sizeLine; decide), fun t15 o15 n15 s15 z15 => ?_⟩
        generalize upd _ t15 o15 = H15 at s15 z15 ⊢
        refine ⟨(by show 1 ≤ sizeLine; decide), fun l16 n16 => ?_⟩
        generalize hg : upd _ l16 _ = H16
        obtain ⟨s16, g16⟩ := upd_new hg n16
        clear hg
        refine ⟨l16, 2, _, rfl, rfl, g16, by decide, by decide, (by show 1 * 2 ≤ sizeLine; decide), fun l17 n17 => ?_⟩
        generalize hg : upd _ l17 _ = H17
        obtain ⟨s17, g17⟩ := upd_new hg n17
        clear hg
        have g17 : H17 l17 = some (.lst [.ref t15, .ref t15]) := g17
        have s47 := s15.trans (s16.trans s17)
        have dX : Dn K H17 (.ref l17) (.list [toldD 2 (reld xs c) od, toldD 3 (reld xs c) od]) := by
          rw [e2, e3]
          exact .lst g17 (.cons (dn_T2 (z15.same (s16.trans s17))) (.cons (dn_T2 (z15.same (s16.trans s17))) .nil))
        have sh := tx_two (told_tx (k := 2) td tO) (told_tx (k := 3) td tO)
        refine ⟨_, _, (dL.same s47).dp sh.1, dX.dp sh.1, sh.2, sh.2, _, rfl, ?_⟩
        rw [SeqAt.eqv_refl _ sh.1]
        refine iteF ?_
        have sX := s08.trans s47
        clear s08 s47 s15 s16 s17 g16 g17 z15 dL dX sh qT hT s8 s02 s2 z2 nD
        clear e2 e3 np fo
        revert sX
        generalize H17 = HX
        intro sX
      case' B =>
        have sX := s1
        revert sX
        generalize H1 = HX at *
        intro sX
      all_goals
        refine ⟨5, rfl, by decide, by decide, fun D nD => ?_⟩
        refine lc_it (walk_range (lo := 0) (n := 5)) (fun i H' => Same HX H' ∧ ∃ ts, H' D = some (.lst ts) ∧ ts.length = i ∧ Dbs K D H' ts ((List.range i).map fun (j : Nat) => toldD (0 + (j : Int)) (reld xs c) (.str n0))) ⟨same_upd nD, [], upd_same, rfl, .nil⟩ (fun _ _ _ _ => trivial) ?_ ?_
        · rintro i y H8 H9 hi ⟨s8, ts, hT, tl, qT⟩ ⟨rfl, rfl⟩
          refine ⟨rfl, ?_⟩
          dsimp only [tYes]
          refine iteT ?_
          refine ⟨_, rfl, _, rfl, _, rfl, la, _, 0, .str n0, rfl, rfl, SqL.of (s8 _ _ (sX _ _ hl)), atI_nat (j := 0) rfl, ?_⟩
          refine ⟨_, _, _, _, _, rfl, by omega, by omega, (dv.same sX).same s8, .str n0, td, tn, pd, Nat.zero_le _, fun H10 t s10 dt => ?_⟩
          refine ⟨ts, s10 _ _ hT, small200 (by omega), same_upd2 (s8.trans s10) nD, _, upd_same, (by rw [List.length_append, tl]; rfl), ?_⟩
          rw [List.range_succ, List.map_append]
          exact acc_push (s10 _ _ hT) (qT.same s10) (told_tx td tn) dt
        rintro H8 ⟨s8, ts, hT, tl, qT⟩
        refine ⟨_, rfl, _, rfl, iteF ?_⟩
        refine ⟨_, rfl, _, rfl, iteF ?_⟩
        refine ⟨_, rfl, _, _, rfl, dv.same (sX.trans s8), ft.1, ft.2.1, ft.2.2, _, rfl, rfl, ?_⟩
        rw [decide_eq_true rfl]
        exact q _ (sX.trans s8)
    | false =>
      have ir : isRel d = false := hb.symm
      refine ⟨_, rfl, _, rfl, iteF ?_⟩
      refine ⟨_, rfl, _, rfl, iteF ?_⟩
      obtain ⟨HX, hX⟩ : ∃ HX, HX = HO := ⟨_, rfl⟩
      have sX : Same HO HX := by rw [hX]; exact Same.refl _
      rw [← hX]
      clear hX
      refine ⟨5, rfl, by decide, by decide, fun D nD => ?_⟩
      refine lc_it (walk_range (lo := 0) (n := 5)) (fun i H' => Same HX H' ∧ ∃ ts, H' D = some (.lst ts) ∧ ts.length = i ∧ Dbs K D H' ts ((List.range i).map fun (j : Nat) => toldD (0 + (j : Int)) d (.str n0))) ⟨same_upd nD, [], upd_same, rfl, .nil⟩ (fun _ _ _ _ => trivial) ?_ ?_
      · rintro i y H8 H9 hi ⟨s8, ts, hT, tl, qT⟩ ⟨rfl, rfl⟩
        refine ⟨rfl, ?_⟩
        dsimp only [tYes]
        refine iteT ?_
        refine ⟨_, rfl, _, rfl, _, rfl, la, _, 0, .str n0, rfl, rfl, SqL.of (s8 _ _ (sX _ _ hl)), atI_nat (j := 0) rfl, ?_⟩
        refine ⟨_, _, _, _, _, rfl, by omega, by omega, (dv.same sX).same s8, .str n0, td, tn, pd, Nat.zero_le _, fun H10 t s10 dt => ?_⟩
        refine ⟨ts, s10 _ _ hT, small200 (by omega), same_upd2 (s8.trans s10) nD, _, upd_same, (by rw [List.length_append, tl]; rfl), ?_⟩
        rw [List.range_succ, List.map_append]
        exact acc_push (s10 _ _ hT) (qT.same s10) (told_tx td tn) dt
      rintro H8 ⟨s8, ts, hT, tl, qT⟩
      have te : ∀ j, toldD j d (.str n0) = T2 "relink" d.shown := fun j => told_bad ir
      have dL : Dn K H8 (.ref D) (.list [T2 "relink" d.shown, T2 "relink" d.shown, T2 "relink" d.shown, T2 "relink" d.shown, T2 "relink" d.shown]) := by
        have z : (List.range 5).map (fun (j : Nat) => toldD (0 + (j : Int)) d (.str n0)) = [T2 "relink" d.shown, T2 "relink" d.shown, T2 "relink" d.shown, T2 "relink" d.shown, T2 "relink" d.shown] := by
          simp only [te]
          rfl
        rw [z] at qT
        exact .lst hT qT.dns
      have s08 := sX.trans s8
      clear qT hT tl s8 sX nD
      refine ⟨_, rfl, _, rfl, iteT ?_⟩
      refine ⟨_, rfl, _, rfl, _, _, rfl, dv.same s08, ft.1, ft.2.1, ft.2.2, (by show 2 ≤ sizeLine; decide), fun t15 o15 n15 s15 z15 => ?_⟩
      generalize upd _ t15 o15 = H15 at s15 z15 ⊢
      refine ⟨(by show 1 ≤ sizeLine; decide), fun l16 n16 => ?_⟩
      generalize hg : upd _ l16 _ = H16
      obtain ⟨s16, g16⟩ := upd_new hg n16
      clear hg
      refine ⟨l16, 5, _, rfl, rfl, g16, by decide, by decide, (by show 1 * 5 ≤ sizeLine; decide), fun l17 n17 => ?_⟩
      generalize hg : upd _ l17 _ = H17
      obtain ⟨s17, g17⟩ := upd_new hg n17
      clear hg
      have g17 : H17 l17 = some (.lst [.ref t15, .ref t15, .ref t15, .ref t15, .ref t15]) := g17
      have s47 := s15.trans (s16.trans s17)
      have dt := dn_T2 (K := K) (z15.same (s16.trans s17))
      have dX : Dn K H17 (.ref l17) (.list [T2 "relink" d.shown, T2 "relink" d.shown, T2 "relink" d.shown, T2 "relink" d.shown, T2 "relink" d.shown]) := .lst g17 (.cons dt (.cons dt (.cons dt (.cons dt (.cons dt .nil)))))
      have xT : Tx (T2 "relink" d.shown) := ⟨_, _, rfl, by decide +kernel, tam.so td⟩
      have sh := tx_five xT
      refine ⟨_, _, (dL.same s47).dp sh.1, dX.dp sh.1, sh.2, sh.2, _, rfl, ?_⟩
      rw [SeqAt.eqv_refl _ sh.1]
      refine iteF ?_
      have s0 := s08.trans s47
      clear sh dX dt g17 g16 s47 s15 s16 s17 z15 dL s08
      refine ⟨_, rfl, _, rfl, iteT ?_⟩
      refine ⟨_, rfl, _, rfl, 4, _, _, _, _, rfl, by decide, by decide, du.same s0, dv.same s0, tu, td, dpt _ _, pd, fun H18 t18 s18 d18 => ?_⟩
      have s0 := s0.trans s18
      have e4 : toldD 4 (reld ys m) d = T2 "relink" d.shown := told_four iu (got_4.trans (by rw [ir]; rfl))
      rw [e4] at d18
      refine ⟨_, rfl, _, _, rfl, dv.same s0, ft.1, ft.2.1, ft.2.2, (by show 2 ≤ sizeLine; decide), fun t19 o19 n19 s19 z19 => ?_⟩
      generalize upd _ t19 o19 = H19 at s19 z19 ⊢
      have sh := tx_lay xT
      refine ⟨_, _, (d18.same s19).dp sh.1, (dn_T2 z19).dp sh.1, sh.2, sh.2, _, rfl, ?_⟩
      rw [SeqAt.eqv_refl _ sh.1]
      refine iteF ?_
      have s0 := s0.trans s19
      refine ⟨_, rfl, _, _, rfl, dv.same s0, ft.1, ft.2.1, ft.2.2, _, rfl, rfl, ?_⟩
      rw [decide_eq_true rfl]
      exact q _ s0
end
end My

namespace My
open PySem PySem.Spec PyProof.Rows L2 Gy Xl Xs Xt
theorem tm_reld {xs : List Str} {c : Nat} (nm : ∀ x ∈ xs, Nm x) (l : xs.length ≤ 12) (cl : c + 2 ≤ xs.length) : tm 12 (reld xs c) = true ∧ (reld xs c).depth ≤ 2 := by
  refine tm_tup (fun d hd => ?_) (by show 2 ≤ 12; decide)
  simp only [List.mem_cons, List.not_mem_nil, or_false] at hd
  rcases hd with rfl | rfl
  · refine tm_tup (k := 0) (fun d hd => ?_) (by rw [List.length_map]; exact l)
    obtain ⟨x, hx, rfl⟩ := List.mem_map.mp hd
    exact ⟨tam_nm (nm x hx), Nat.zero_le _⟩
  · exact ⟨decide_eq_true (by omega), Nat.zero_le _⟩
section
variable {P : Program} {w : World} {K : PySem.W.Frag} {mg : Str → Option Value} {base : Heap} {H : Hp}
theorem Dr.db {r ra pa : Addr} {xs : List Str} {c : Nat} (h : Dr H ra pa xs c) (R : Rng H r) : Db K r H (.ref ra) (reld xs c) := .tup R h.ra (.cons (.tup R h.pa (dbs_strs xs)) (.cons (.int _) .nil))
/-- spoilt values, down to the depth that the law reaches -/
theorem ok_spAll {f : Addr} {fd : FuncData} (F : Fun K "_law_spoilt" "_law_spoilt" s_law_spoilt f fd) (gm : mg "_law_spoilt" = some (.ref f)) (kp : PySem.W.keepIn K (.ref f) = true) (bd : Binds K fd ["_law_rng_here", "_law_value"] []) (Y : Bn mg)
    (G_law_draw : Fk P w K mg base CX0 1 "_law_draw" ["_law_rng_here", "_law_many"] spDraw) (G_law_odd : Fk P w K mg base CX0 2 "_law_odd" ["_law_rng_here"] (spOdd K)) : ∀ k : Nat, FnOk P w K mg base CX0 (k + 4) f fd ["_law_rng_here", "_law_value"] (spSp K k)
  | 0 => ok_sp 0 F Y G_law_draw G_law_odd ⟨⟨_, _, gm, kp, bd, F.ok sc_law_spoilt (fun _ _ _ _ h => h.elim) (fun _ _ _ _ _ _ _ _ _ h => h.elim)⟩⟩
  | k + 1 => ok_sp (k + 1) F Y G_law_draw G_law_odd ⟨⟨_, _, gm, kp, bd, ok_spAll F gm kp bd Y G_law_draw G_law_odd k⟩⟩
def spRight : Sp := fun vs H Q _ => ∃ r : Addr, vs = [.ref r] ∧ Rng H r ∧ ∀ H', But r H H' → Q (.bl true) H'
theorem ok_right16 {f : Addr} {fd : FuncData} (F : Fun K "_law_right" "_law_right" s_law_right f fd) (G_law_draw : Fk P w K mg base CX0 1 "_law_draw" ["_law_rng_here", "_law_many"] spDraw) (G_law_names : Fk P w K mg base CX0 2 "_law_names" ["_law_rng_here", "_law_many"] spNames)
    (Y : Bn mg) (G_law_shuffled : Fk P w K mg base CX0 2 "_law_shuffled" ["_law_rng_here", "_law_some"] spShuf) (G_law_drawn : Fk P w K mg base CX0 3 "_law_drawn" ["_law_rng_here", "_law_names_here"] spDrawn) (G_law_is_right : Fk P w K mg base CX0 2 "_law_is_right" ["_law_value"] (spRel K))
    (G_law_odd : Fk P w K mg base CX0 2 "_law_odd" ["_law_rng_here"] (spOdd K)) (G_law_spoilt : Fk P w K mg base CX0 7 "_law_spoilt" ["_law_rng_here", "_law_value"] (spSp K 3)) (G_law_value_right : Fg P w K mg base CX0 11 "_law_value_right" ["_law_rng_here", "_law_value", "_law_names_here", "_law_second"] (spVal K)) :
    FnG P w K mg base CX0 12 f fd ["_law_rng_here"] spRight := by
  refine fun_g0 F sc_law_right (fun {vs H Q E} h => ?_) (fun cdv A outer s H vs Q E gd hr h => ?_)
  · obtain ⟨r, rfl, _⟩ := h
    rfl
  · obtain ⟨r, rfl, R, q⟩ := h
    refine ⟨_, (pss_cons (ps_set (i := 1) sc_law_right.nd rfl (.inl rfl) (pe_callF G_law_names (hr.mono (by decide)) (by rfl) pass0 (pa_cons (pv 0) (pa_cons (pe_op op_add pe_int (pe_callF G_law_draw (hr.mono (by decide)) (by rfl) pass0 (pa_cons (pv 0) (pa_cons pe_int pa_nil)))) pa_nil))))
 (pss_cons (ps_par (i := 2) (j := 3) (by rfl) sc_law_right.nd rfl rfl (by decide) rfl rfl (pa_cons (pe_callF G_law_drawn (hr.mono (by decide)) (by rfl) pass0 (pa_cons (pv 0) (pa_cons (pv 1) pa_nil))) (pa_cons (pe_callF G_law_drawn (hr.mono (by decide)) (by rfl) pass0 (pa_cons (pv 0) (pa_cons (pe_slice sl_list (pe_callF G_law_shuffled (hr.mono (by decide)) (by rfl) pass0 (pa_cons (pv 0) (pa_cons (pv 1) pa_nil))) po_none (po_some pe_int)) pa_nil))) pa_nil)) (by rfl))
 (pss_cons (ps_if (PW.pt (pw_or (pt_not (pt_val (pe_callF G_law_is_right (hr.mono (by decide)) (by rfl) pass0 (pa_cons (pv 2) pa_nil)))) (pw_or1 (pt_not (pt_val (pe_callFg (E := E0) G_law_value_right gd (hr.mono (by decide)) (by rfl) pass0 (pa_cons (pv 0) (pa_cons (pv 2) (pa_cons (pv 1) (pa_cons (pv 3) pa_nil))))))))))
 (pss_one (ps_ret pe_bl))
 pss_nil)
 (pss_cons (ps_for PassesOwn.never rfl (pi_range1 (by rfl) Y.range (pa_cons pe_int pa_nil)) (pg_name (i := 4) sc_law_right.nd rfl (Or.inl rfl))
 (pss_cons (ps_set (i := 5) sc_law_right.nd rfl (.inl rfl) (pe_callF G_law_spoilt (hr.mono (by decide)) (by rfl) pass0 (pa_cons (pv 0) (pa_cons (pv 2) pa_nil))))
 (pss_cons (ps_set (i := 5) sc_law_right.nd rfl (.inl rfl) (pe_ifExp (pt_cmpR op_gt (pv 4) pe_int (nomark _)) (pe_callF G_law_spoilt (hr.mono (by decide)) (by rfl) pass0 (pa_cons (pv 0) (pa_cons (pv 5) pa_nil))) (pv 5)))
 (pss_one (ps_if (pt_not (pt_val (pe_callFg (E := E0) G_law_value_right gd (hr.mono (by decide)) (by rfl) pass0 (pa_cons (pv 0) (pa_cons (pv 5) (pa_cons (pv 1) (pa_cons (pv 3) pa_nil)))))))
 (pss_one (ps_ret pe_bl))
 pss_nil)))))
 (pss_one (ps_ret (pe_callFg (E := E0) G_law_value_right gd (hr.mono (by decide)) (by rfl) pass0 (pa_cons (pv 0) (pa_cons (pe_callF G_law_odd (hr.mono (by decide)) (by rfl) pass0 (pa_cons (pv 0) pa_nil)) (pa_cons (pv 1) (pa_cons (pv 3) pa_nil))))))))))), ?_⟩
    refine ⟨_, rfl, _, rfl, r, 9, rfl, R, by decide, by decide, fun H1 d b1 R1 d0 d1 => ?_⟩
    obtain ⟨d, rfl⟩ := Int.eq_ofNat_of_zero_le d0
    refine ⟨_, _, rfl, rfl, r, 4 + d, (by show [V.ref r, V.int (4 + (d : Int))] = [V.ref r, V.int ((4 + d : Nat) : Int)]; rw [show (4 : Int) + (d : Int) = ((4 + d : Nat) : Int) by omega]), R1, by omega, fun H2 L ns b2 R2 nL hL nl nm nd => ?_⟩
    have neL := R1.ne nL
    have b02 := b1.trans b2
    clear b1 b2 R1 nL R
    refine ⟨_, rfl, _, rfl, r, L, ns, rfl, R2, neL, hL, by omega, by omega, nm, nd, fun H3 ra pa xs c b3 R3 dr xl _ => ?_⟩
    have hL3 := b3 _ _ neL hL
    refine ⟨_, rfl, _, rfl, _, rfl, r, L, ns, rfl, R3, neL, hL3, by omega, fun H4 L4 zs b4 R4 n4 h4 pm => ?_⟩
    have hL4 := b4 _ _ neL hL3
    have dr := dr.but R3 b4
    have zl := pm.length_eq
    refine ⟨_, rfl, L4, _, rfl, SqL.of h4, fun p np => ?_⟩
    rw [show (some (4 : Int)) = some ((4 : Nat) : Int) from rfl, cutn zs (by omega)]
    have nep := R4.ne np
    generalize hg : upd _ p _ = H5
    obtain ⟨s5, g5⟩ := upd_new hg np
    clear hg
    have R5 := R4.same s5
    have tl : (zs.take 4).length = 4 := by rw [List.length_take]; omega
    have mz : ∀ x ∈ zs.take 4, x ∈ ns := fun x hx => pm.mem_iff.mp (List.mem_of_mem_take hx)
    refine ⟨r, p, zs.take 4, rfl, R5, nep, g5, by omega, by omega, fun x hx => nm x (mz x hx), (pm.nodup_iff.mpr nd).sublist (List.take_sublist _ _), fun H6 rb pb ys m b6 R6 dr2 yl _ => ?_⟩
    refine ⟨_, _, rfl, ?_⟩
    have dr := (dr.same s5).but R5 b6
    have hL6 := b6 _ _ neL (s5 _ _ hL4)
    have b06 := b02.trans (b3.trans (b4.trans ((But.of s5).trans b6)))
    clear b02 b3 b4 s5 b6 hL hL3 hL4 h4 g5 R2 R3 R4 R5 np n4 pm tl mz zl nep
    have iv := rel_of dr.nm dr.nd dr.l3 dr.cl
    have iu := rel_of dr2.nm dr2.nd dr2.l3 dr2.cl
    have tv := tm_reld dr.nm xl dr.cl
    have tu := tm_reld dr2.nm yl dr2.cl
    have dv := dr.db (K := K) R6
    have du := dr2.db (K := K) R6
    have tv' := tm_tam (tm_mono (show 12 ≤ 14 by decide) tv.1)
    have tu' := tm_tam (tm_mono (show 12 ≤ 14 by decide) tu.1)
    clear dr dr2
    obtain ⟨n0, ns', rfl⟩ : ∃ n0 ns', ns = n0 :: ns' := by
      cases ns with
      | nil => exact absurd nl (by show ¬ 0 = 4 + d; omega)
      | cons a t => exact ⟨a, t, rfl⟩
    refine ⟨_, rfl, _, _, rfl, dv.dn, tam.sml tv', fun H7 s7 => ?_⟩
    rw [iv]
    refine ⟨_, rfl, iteF ?_⟩
    refine ⟨_, rfl, _, rfl, _, rfl, _, rfl, r, L, _, _, _, n0, ns', ys, m, rfl, (R6.same s7), neL, (But.of s7) _ _ neL hL6, nm, (dv.same s7), tv', (by omega), du.but (But.of s7), iu, tu', fun H8 b8 R8 => ?_⟩
    have b8 := But.trans (But.of s7) b8
    refine ⟨_, rfl, iteF ?_⟩
    refine ⟨4, rfl, by decide, by decide, ?_⟩
    refine for_it (walk_range (lo := 0) (n := 4)) (fun i σ H' => (∃ a4 a5, σ = [some (.ref r), some (.ref L), some (.ref ra), some (.ref rb), a4, a5]) ∧ But r H6 H' ∧ Rng H' r) ⟨⟨_, _, rfl⟩, b8, R8⟩ (fun _ _ _ _ _ => trivial) ?_ ?_
    · rintro i y σ H9 H10 hi ⟨⟨a4, a5, rfl⟩, b9, R9⟩ ⟨rfl, rfl⟩
      refine ⟨_, rfl, _, rfl, r, _, _, 12, rfl, R9, dv.but b9, tv.1, by decide, by decide, by omega, fun H11 u e b11 R11 de te pe => ?_⟩
      have b11 := b9.trans b11
      refine ⟨_, rfl, _, _, rfl, rfl, _, rfl, ite2 (fun c1 => ?_) (fun c1 => ?_)⟩
      · refine ⟨_, rfl, _, rfl, r, _, _, 13, rfl, R11, de, te, by decide, by decide, by omega, fun H12 u2 e2 b12 R12 de2 te2 pe2 => ?_⟩
        have b12 := b11.trans b12
        refine ⟨_, rfl, _, rfl, _, rfl, _, rfl, r, L, _, _, _, n0, ns', ys, m, rfl, R12, neL, b12 _ _ neL hL6, nm, de2, (tm_tam te2), (by omega), du.but b12, iu, tu', fun H13 b13 R13 => ?_⟩
        have b13 := But.trans b12 b13
        exact ⟨_, rfl, iteF ⟨⟨_, _, rfl⟩, b13, R13⟩⟩
      · refine ⟨_, rfl, ?_⟩
        refine ⟨_, rfl, _, rfl, _, rfl, _, rfl, r, L, _, _, _, n0, ns', ys, m, rfl, R11, neL, b11 _ _ neL hL6, nm, de, (tm_tam (tm_mono (show 13 ≤ 14 by decide) te)), (by omega), du.but b11, iu, tu', fun H13 b13 R13 => ?_⟩
        have b13 := But.trans b11 b13
        exact ⟨_, rfl, iteF ⟨⟨_, _, rfl⟩, b13, R13⟩⟩
    · rintro σ H9 ⟨⟨a4, a5, rfl⟩, b9, R9⟩
      refine ⟨_, rfl, _, rfl, r, rfl, R9, fun H10 v e b10 R10 de te pe => ?_⟩
      have b10 := b9.trans b10
      refine ⟨_, rfl, _, rfl, r, L, _, _, _, n0, ns', ys, m, rfl, R10, neL, b10 _ _ neL hL6, nm, de, (tm_tam (tm_mono (show 2 ≤ 14 by decide) te)), (by omega), du.but b10, iu, tu', fun H11 b11 R11 => ?_⟩
      have b11 := But.trans b10 b11
      exact q _ (b06.trans b11)
theorem ok_law {f : Addr} {fd : FuncData} (F : Fun K "law" "law" s_law f fd) (Y : Bn mg) (G_law_rng : Fk P w K mg base CX0 1 "_law_rng" ["_law_script", "_law_k"] (spPot K))
    (G_law_right : Fg P w K mg base CX0 12 "_law_right" ["_law_rng_here"] spRight) : FnG P w K mg base CX0 13 f fd ["_law_script"] (spLaw K) := by
  refine fun_g0 F sc_law (fun {vs H Q E} h => ?_) (fun cdv A outer s H vs Q E gd hr h => ?_)
  · obtain ⟨a, ns, rfl, _⟩ := h
    rfl
  · obtain ⟨a, ns, rfl, hS, hn, q⟩ := h
    refine ⟨_, (pss_one (ps_ret (pe_callB (cr_all rfl) (by rfl) Y.all (by decide +kernel) (pa_cons (pe_lc (own := [("_law_k", 1)]) (g := gName 1) (tt := tYes) rfl sc_law.nd (pi_range1 (by rfl) Y.range (pa_cons (pe_callB (call_max2 rfl) (by rfl) Y.max (by decide +kernel) (pa_cons pe_int (pa_cons (pe_callB (call_min2 rfl) (by rfl) Y.min (by decide +kernel) (pa_cons pe_int (pa_cons (pe_callB call_len_seq (by rfl) Y.len PySem.boot_len (pa_cons (pv 0) pa_nil)) pa_nil))) pa_nil))) pa_nil)) (blkOk_by (N := ["_law_script", "_law_k"]) (sc := defScope s_law) (by decide +kernel)) (fun _ _ _ _ _ => (pg_name (i := 1) sc_law.nd rfl (Or.inl rfl))) (fun _ _ _ _ _ => pts_nil) (fun _ _ _ _ _ => (pe_callFg (E := E0) G_law_right gd hr (by rfl) pass0 (pa_cons (pe_callF G_law_rng (hr.mono (by decide)) (by rfl) pass0 (pa_cons (pv 0) (pa_cons (pv 1) pa_nil))) pa_nil)))) pa_nil)))), ?_⟩
    refine ⟨_, rfl, a, _, rfl, .inl hS, 8, _, rfl, 1, _, rfl, _, rfl, ?_, ?_, fun D1 nD1 => ?_⟩
    · rw [List.length_map]
      split <;> split <;> omega
    · rw [List.length_map]
      split <;> split <;> omega
    generalize hm : (Int.toNat _) = m
    have m6 : m ≤ 8 := by
      rw [List.length_map] at hm
      rw [← hm]
      split <;> split <;> omega
    refine lc_it (walk_range (lo := 0) (n := m)) (fun i H' => Same H H' ∧ H' D1 = some (.lst ((List.replicate i true).map V.bl))) ⟨same_upd nD1, upd_same⟩ (fun _ _ _ _ => trivial) ?_ ?_
    · rintro k y H1 H2 hk ⟨s1, hZ⟩ ⟨rfl, rfl⟩
      refine ⟨rfl, ?_⟩
      dsimp only [tYes]
      refine iteT ?_
      refine ⟨_, rfl, _, rfl, a, ns, k, (by show [V.ref a, V.int (0 + (k : Int))] = _; rw [Int.zero_add]), s1.seq hS, by omega, fun H3 r s3 nr R3 => ?_⟩
      refine ⟨r, rfl, R3, fun H4 b4 => ?_⟩
      have s4 : Same H2 H4 := fun b o e => b4 b o (fun z => by rw [z, nr] at e; cases e) (s3 b o e)
      refine ⟨_, s4 _ _ hZ, ?_, same_upd2 (s1.trans s4) nD1, ?_⟩
      · rw [List.length_map, List.length_replicate]
        exact small200 (by omega)
      · rw [upd_same, List.replicate_succ', List.map_append]
        rfl
    · rintro H1 ⟨s1, hZ⟩
      refine ⟨D1, _, rfl, SqL.of hZ, ?_⟩
      rw [all_true]
      exact q _
end
end My

namespace My
open PySem PySem.Spec PyProof.Rows L2 Gy Xl Xs Xt
theorem xb_mk {K : PySem.W.Frag} {x qual : Str} {st : Stmt} {f : Addr} {fd : FuncData} {ps ks : List Str} {g : List Value → List Value → List Value} {gV : List V → List V → List V} (F : Fun K x qual st f fd)
    (rel : ∀ {vs : List V} {us : List Value} {zs : List V} {ws : List Value}, Vals vs us → Vals zs ws → Vals (gV vs zs) (g us ws))
    (h : ∀ (kV doc pm : Value) (an : Option Addr) (cdv ct : Value) (b : Value) (us ws : List Value), (b :: g us ws).length = ps.length →
      bindArgs (PySem.W.fnOf x qual (defArgs st) (defBody st) (defScope st) .none kV doc pm an cdv ct) ⟨b :: us, ks.zip ws⟩ = pure (ps.zip (b :: g us ws))) : XB K fd ps ks g gV := by
  obtain ⟨oc, od, kV, doc, pm, an, cdv, ct, osl, rfl, lk, hcd⟩ := F.ex
  exact ⟨fun s b us ws _ hl => .of_eq (h kV doc pm an cdv ct b us ws hl), rel⟩
abbrev sI_InvalidRelink : Stmt := inClass (top 2) 0
theorem scI_InvalidRelink : FnScope ["self", "value"] ["self", "value"] (defScope sI_InvalidRelink) := ⟨rfl, rfl, rfl, by decide +kernel, rfl, by decide +kernel, by decide +kernel⟩
theorem raw_InvalidRelink {K : PySem.W.Frag} {c fI : Addr} {od an : Option Addr} {sl : Array (Option Value)} {oc kV dc pm cdv ct : Value}
    (ii : PySem.W.excInitIn K c [.type "ValueError", .type "Exception", .type "BaseException", .type "object"] "ValueError.__new__" = true) (ov : PySem.W.excOver K c [.type "ValueError", .type "Exception", .type "BaseException", .type "object"] = true) (sa : PySem.W.findIn K (.ref c) "__setattr__" = some (some (.builtin "object.__setattr__")))
    (ga : PySem.W.findIn K (.ref c) "__getattribute__" = some (some (.builtin "BaseException.__getattribute__"))) (gg : PySem.W.findIn K (.ref c) "__getattr__" = some none) (ca : PySem.W.findIn K (.ref c) "__class__" = some (some (.builtin "object.__class__")))
    (ex : PySem.W.subIn K (.ref c) (.type "BaseException") = some true) (ob : PySem.W.mroIn K c (.type "object") = some true) (hd : PySem.W.hasDictIn K c = true) (kp : PySem.W.keepIn K (.ref c) = true)
    (ty : PySem.W.typeIn K (.ref c) = some (.type "type")) (ini : PySem.W.findIn K (.ref c) "__init__" = some (some (.ref fI))) (tf : PySem.W.typeIn K (.ref fI) = some (.type "function"))
    (li : K.lookup fI = some ⟨oc, od, .func (PySem.W.fnOf "__init__" "InvalidRelink.__init__" (defArgs sI_InvalidRelink) (defBody sI_InvalidRelink) (defScope sI_InvalidRelink) .none kV dc pm an cdv ct), sl⟩) (ci : PySem.W.codeIn K cdv "InvalidRelink.__init__" = true) (ki : PySem.W.keepIn K (.ref fI) = true)
    (n0 : PySem.W.findIn K (.ref c) "value" = some none) : XCl K c ∧ ∀ (P : Program) (w : World) (mg : Str → Option Value) (base : Heap), mg "InvalidRelink" = some (.ref c) → Rz P w K mg base "InvalidRelink" "value" c := by
  have X : XCl K c := ⟨⟨_, _, _, _, PySem.F.excBase_ValueError, PySem.F.store_ValueError, ii, ov⟩, sa, ga, gg, ca, ex, ob, hd, kp⟩
  refine ⟨X, fun P w mg base gm => ?_⟩
  have F := fun_mk (st := sI_InvalidRelink) li ci ki
  refine ⟨gm, ty, fI, _, ⟨X, ini, tf⟩, ?_, xb_mk F (fun r _ => r) fun _ _ _ _ _ _ b us ws hl => match us, hl with | [_], _ => rfl⟩
  refine F.ok scI_InvalidRelink (fun vs H Q E h => ?_) (fun cdv A outer s H vs Q E hr h => ?_)
  · obtain ⟨a, v, rfl, _⟩ := h
    rfl
  · obtain ⟨a, v, rfl, ha, q⟩ := h
    exact ⟨_, pss_one (ps_xs (pv 0) (pv 1)), v, rfl, .ref a, rfl, a, c, rfl, X, n0, .inl ⟨ha, fun dx n ne => q dx n ne⟩⟩
abbrev sI_UnknownHost : Stmt := inClass (top 3) 0
theorem scI_UnknownHost : FnScope ["self", "host"] ["self", "host"] (defScope sI_UnknownHost) := ⟨rfl, rfl, rfl, by decide +kernel, rfl, by decide +kernel, by decide +kernel⟩
theorem raw_UnknownHost {K : PySem.W.Frag} {c fI : Addr} {od an : Option Addr} {sl : Array (Option Value)} {oc kV dc pm cdv ct : Value}
    (ii : PySem.W.excInitIn K c [.type "LookupError", .type "Exception", .type "BaseException", .type "object"] "LookupError.__new__" = true) (ov : PySem.W.excOver K c [.type "LookupError", .type "Exception", .type "BaseException", .type "object"] = true) (sa : PySem.W.findIn K (.ref c) "__setattr__" = some (some (.builtin "object.__setattr__")))
    (ga : PySem.W.findIn K (.ref c) "__getattribute__" = some (some (.builtin "BaseException.__getattribute__"))) (gg : PySem.W.findIn K (.ref c) "__getattr__" = some none) (ca : PySem.W.findIn K (.ref c) "__class__" = some (some (.builtin "object.__class__")))
    (ex : PySem.W.subIn K (.ref c) (.type "BaseException") = some true) (ob : PySem.W.mroIn K c (.type "object") = some true) (hd : PySem.W.hasDictIn K c = true) (kp : PySem.W.keepIn K (.ref c) = true)
    (ty : PySem.W.typeIn K (.ref c) = some (.type "type")) (ini : PySem.W.findIn K (.ref c) "__init__" = some (some (.ref fI))) (tf : PySem.W.typeIn K (.ref fI) = some (.type "function"))
    (li : K.lookup fI = some ⟨oc, od, .func (PySem.W.fnOf "__init__" "UnknownHost.__init__" (defArgs sI_UnknownHost) (defBody sI_UnknownHost) (defScope sI_UnknownHost) .none kV dc pm an cdv ct), sl⟩) (ci : PySem.W.codeIn K cdv "UnknownHost.__init__" = true) (ki : PySem.W.keepIn K (.ref fI) = true)
    (n0 : PySem.W.findIn K (.ref c) "host" = some none) : XCl K c ∧ ∀ (P : Program) (w : World) (mg : Str → Option Value) (base : Heap), mg "UnknownHost" = some (.ref c) → Rz P w K mg base "UnknownHost" "host" c := by
  have X : XCl K c := ⟨⟨_, _, _, _, PySem.F.excBase_LookupError, PySem.F.store_LookupError, ii, ov⟩, sa, ga, gg, ca, ex, ob, hd, kp⟩
  refine ⟨X, fun P w mg base gm => ?_⟩
  have F := fun_mk (st := sI_UnknownHost) li ci ki
  refine ⟨gm, ty, fI, _, ⟨X, ini, tf⟩, ?_, xb_mk F (fun r _ => r) fun _ _ _ _ _ _ b us ws hl => match us, hl with | [_], _ => rfl⟩
  refine F.ok scI_UnknownHost (fun vs H Q E h => ?_) (fun cdv A outer s H vs Q E hr h => ?_)
  · obtain ⟨a, v, rfl, _⟩ := h
    rfl
  · obtain ⟨a, v, rfl, ha, q⟩ := h
    exact ⟨_, pss_one (ps_xs (pv 0) (pv 1)), v, rfl, .ref a, rfl, a, c, rfl, X, n0, .inl ⟨ha, fun dx n ne => q dx n ne⟩⟩
theorem exm_of {K : PySem.W.Frag} {C D : Addr} {cd : ClassData} {b : Bool} (bP : PySem.W.subIn K (.ref D) (.type "BaseException") = some true) (cl : PySem.W.clsIn K D = some cd) (ty : PySem.W.typeIn K (.ref D) = some (.type "type")) (ss : PySem.W.subIn K (.ref C) (.ref D) = some b) : PySem.W.exmOne K (.ref C) (.ref D) = some b := by
  unfold PySem.W.exmOne
  rw [bP, if_pos (by rfl)]
  show (if ((PySem.W.clsIn K D).isSome && PySem.W.typeIn K (.ref D) == some (.type "type")) = true then PySem.W.subIn K (.ref C) (.ref D) else none) = _
  rw [cl, ty, if_pos (by rfl)]
  exact ss
theorem kit_bt {K : PySem.W.Frag} {C : Addr} {T : String} {b : Bool} (m : PySem.W.kitMeta T = true) (sb : PySem.W.subIn K (.ref C) (.type T) = some b) : PySem.W.kitOne K (.ref C) (.type T) = some b := by
  unfold PySem.W.kitOne
  rw [if_neg (show ¬ ((Value.ref C == Value.type T) = true) from fun z => Value.noConfusion (beq_iff_eq.mp z))]
  show (if PySem.W.kitMeta T = true then PySem.W.subIn K (.ref C) (.type T) else none) = _
  rw [if_pos m]
  exact sb
theorem kit_sub {K : PySem.W.Frag} {C D : Addr} {cd : ClassData} {b : Bool} (ne : C ≠ D) (cl : PySem.W.clsIn K D = some cd) (ty : PySem.W.typeIn K (.ref D) = some (.type "type")) (sb : PySem.W.subIn K (.ref C) (.ref D) = some b) : PySem.W.kitOne K (.ref C) (.ref D) = some b := by
  unfold PySem.W.kitOne
  rw [if_neg (fun z => ne (Value.ref.inj (beq_iff_eq.mp z)))]
  show (if ((PySem.W.clsIn K D).isSome && PySem.W.typeIn K (.ref D) == some (.type "type")) = true then PySem.W.subIn K (.ref C) (.ref D) else none) = _
  rw [cl, ty, if_pos (by rfl)]
  exact sb
theorem all_mk {l : PySem.W.OpenLaw} {w : World} {K : PySem.W.Frag} {h : Heap} {mg : Str → Option Value} {fa f_is_integer_from f_is_index f_is_text_of f_is_host_name f_is_relink_path f_is_cut_of f_is_relink f_check_relink f_link_between f_added_link f_removed_link f_position f_is_near f_are_independent f_law_rng f_law_draw f_law_names f_law_shuffled f_law_odd f_law_is_name f_law_is_right f_law_drawn f_law_spoilt f_law_call f_law_told f_law_links_right f_law_value_right f_law_right f_law c_InvalidRelink c_UnknownHost : Addr} {c_R : Addr} {cd_R cd_C cd_U : ClassData} (X : K.In h) (G : h.Ns mainGlobals mg) (hfa : mg "law" = some (.ref fa))
    {od_is_integer_from od_is_index od_is_text_of od_is_host_name od_is_relink_path od_is_cut_of od_is_relink od_check_relink od_link_between od_added_link od_removed_link od_position od_is_near od_are_independent od_law_rng od_law_draw od_law_names od_law_shuffled od_law_odd od_law_is_name od_law_is_right od_law_drawn od_law_spoilt od_law_call od_law_told od_law_links_right od_law_value_right od_law_right od_law an_is_integer_from an_is_index an_is_text_of an_is_host_name an_is_relink_path an_is_cut_of an_is_relink an_check_relink an_link_between an_added_link an_removed_link an_position an_is_near an_are_independent an_law_rng an_law_draw an_law_names an_law_shuffled an_law_odd an_law_is_name an_law_is_right an_law_drawn an_law_spoilt an_law_call an_law_told an_law_links_right an_law_value_right an_law_right an_law : Option Addr} {sl_is_integer_from sl_is_index sl_is_text_of sl_is_host_name sl_is_relink_path sl_is_cut_of sl_is_relink sl_check_relink sl_link_between sl_added_link sl_removed_link sl_position sl_is_near sl_are_independent sl_law_rng sl_law_draw sl_law_names sl_law_shuffled sl_law_odd sl_law_is_name sl_law_is_right sl_law_drawn sl_law_spoilt sl_law_call sl_law_told sl_law_links_right sl_law_value_right sl_law_right sl_law : Array (Option Value)} {oc_is_integer_from oc_is_index oc_is_text_of oc_is_host_name oc_is_relink_path oc_is_cut_of oc_is_relink oc_check_relink oc_link_between oc_added_link oc_removed_link oc_position oc_is_near oc_are_independent oc_law_rng oc_law_draw oc_law_names oc_law_shuffled oc_law_odd oc_law_is_name oc_law_is_right oc_law_drawn oc_law_spoilt oc_law_call oc_law_told oc_law_links_right oc_law_value_right oc_law_right oc_law kV_is_integer_from kV_is_index kV_is_text_of kV_is_host_name kV_is_relink_path kV_is_cut_of kV_is_relink kV_check_relink kV_link_between kV_added_link kV_removed_link kV_position kV_is_near kV_are_independent kV_law_rng kV_law_draw kV_law_names kV_law_shuffled kV_law_odd kV_law_is_name kV_law_is_right kV_law_drawn kV_law_spoilt kV_law_call kV_law_told kV_law_links_right kV_law_value_right kV_law_right kV_law dc_is_integer_from dc_is_index dc_is_text_of dc_is_host_name dc_is_relink_path dc_is_cut_of dc_is_relink dc_check_relink dc_link_between dc_added_link dc_removed_link dc_position dc_is_near dc_are_independent dc_law_rng dc_law_draw dc_law_names dc_law_shuffled dc_law_odd dc_law_is_name dc_law_is_right dc_law_drawn dc_law_spoilt dc_law_call dc_law_told dc_law_links_right dc_law_value_right dc_law_right dc_law pm_is_integer_from pm_is_index pm_is_text_of pm_is_host_name pm_is_relink_path pm_is_cut_of pm_is_relink pm_check_relink pm_link_between pm_added_link pm_removed_link pm_position pm_is_near pm_are_independent pm_law_rng pm_law_draw pm_law_names pm_law_shuffled pm_law_odd pm_law_is_name pm_law_is_right pm_law_drawn pm_law_spoilt pm_law_call pm_law_told pm_law_links_right pm_law_value_right pm_law_right pm_law cd_is_integer_from cd_is_index cd_is_text_of cd_is_host_name cd_is_relink_path cd_is_cut_of cd_is_relink cd_check_relink cd_link_between cd_added_link cd_removed_link cd_position cd_is_near cd_are_independent cd_law_rng cd_law_draw cd_law_names cd_law_shuffled cd_law_odd cd_law_is_name cd_law_is_right cd_law_drawn cd_law_spoilt cd_law_call cd_law_told cd_law_links_right cd_law_value_right cd_law_right cd_law ct_is_integer_from ct_is_index ct_is_text_of ct_is_host_name ct_is_relink_path ct_is_cut_of ct_is_relink ct_check_relink ct_link_between ct_added_link ct_removed_link ct_position ct_is_near ct_are_independent ct_law_rng ct_law_draw ct_law_names ct_law_shuffled ct_law_odd ct_law_is_name ct_law_is_right ct_law_drawn ct_law_spoilt ct_law_call ct_law_told ct_law_links_right ct_law_value_right ct_law_right ct_law : Value}
    {t_LETTERS t_LONGEST_NAME t_SHORTEST_PATH : Tok}
    (a_is_integer_from : PySem.W.nsIn K mainGlobals "is_integer_from" = some (some (.ref f_is_integer_from))) (l_is_integer_from : K.lookup f_is_integer_from = some ⟨oc_is_integer_from, od_is_integer_from, .func (PySem.W.fnOf "is_integer_from" "is_integer_from" (defArgs s_is_integer_from) (defBody s_is_integer_from) (defScope s_is_integer_from) .none kV_is_integer_from dc_is_integer_from pm_is_integer_from an_is_integer_from cd_is_integer_from ct_is_integer_from), sl_is_integer_from⟩) (co_is_integer_from : PySem.W.codeIn K cd_is_integer_from "is_integer_from" = true) (k_is_integer_from : PySem.W.keepIn K (.ref f_is_integer_from) = true)
    (a_is_index : PySem.W.nsIn K mainGlobals "is_index" = some (some (.ref f_is_index))) (l_is_index : K.lookup f_is_index = some ⟨oc_is_index, od_is_index, .func (PySem.W.fnOf "is_index" "is_index" (defArgs s_is_index) (defBody s_is_index) (defScope s_is_index) .none kV_is_index dc_is_index pm_is_index an_is_index cd_is_index ct_is_index), sl_is_index⟩) (co_is_index : PySem.W.codeIn K cd_is_index "is_index" = true) (k_is_index : PySem.W.keepIn K (.ref f_is_index) = true)
    (a_is_text_of : PySem.W.nsIn K mainGlobals "is_text_of" = some (some (.ref f_is_text_of))) (l_is_text_of : K.lookup f_is_text_of = some ⟨oc_is_text_of, od_is_text_of, .func (PySem.W.fnOf "is_text_of" "is_text_of" (defArgs s_is_text_of) (defBody s_is_text_of) (defScope s_is_text_of) .none kV_is_text_of dc_is_text_of pm_is_text_of an_is_text_of cd_is_text_of ct_is_text_of), sl_is_text_of⟩) (co_is_text_of : PySem.W.codeIn K cd_is_text_of "is_text_of" = true) (k_is_text_of : PySem.W.keepIn K (.ref f_is_text_of) = true)
    (a_is_host_name : PySem.W.nsIn K mainGlobals "is_host_name" = some (some (.ref f_is_host_name))) (l_is_host_name : K.lookup f_is_host_name = some ⟨oc_is_host_name, od_is_host_name, .func (PySem.W.fnOf "is_host_name" "is_host_name" (defArgs s_is_host_name) (defBody s_is_host_name) (defScope s_is_host_name) .none kV_is_host_name dc_is_host_name pm_is_host_name an_is_host_name cd_is_host_name ct_is_host_name), sl_is_host_name⟩) (co_is_host_name : PySem.W.codeIn K cd_is_host_name "is_host_name" = true) (k_is_host_name : PySem.W.keepIn K (.ref f_is_host_name) = true)
    (a_is_relink_path : PySem.W.nsIn K mainGlobals "is_relink_path" = some (some (.ref f_is_relink_path))) (l_is_relink_path : K.lookup f_is_relink_path = some ⟨oc_is_relink_path, od_is_relink_path, .func (PySem.W.fnOf "is_relink_path" "is_relink_path" (defArgs s_is_relink_path) (defBody s_is_relink_path) (defScope s_is_relink_path) .none kV_is_relink_path dc_is_relink_path pm_is_relink_path an_is_relink_path cd_is_relink_path ct_is_relink_path), sl_is_relink_path⟩) (co_is_relink_path : PySem.W.codeIn K cd_is_relink_path "is_relink_path" = true) (k_is_relink_path : PySem.W.keepIn K (.ref f_is_relink_path) = true)
    (a_is_cut_of : PySem.W.nsIn K mainGlobals "is_cut_of" = some (some (.ref f_is_cut_of))) (l_is_cut_of : K.lookup f_is_cut_of = some ⟨oc_is_cut_of, od_is_cut_of, .func (PySem.W.fnOf "is_cut_of" "is_cut_of" (defArgs s_is_cut_of) (defBody s_is_cut_of) (defScope s_is_cut_of) .none kV_is_cut_of dc_is_cut_of pm_is_cut_of an_is_cut_of cd_is_cut_of ct_is_cut_of), sl_is_cut_of⟩) (co_is_cut_of : PySem.W.codeIn K cd_is_cut_of "is_cut_of" = true) (k_is_cut_of : PySem.W.keepIn K (.ref f_is_cut_of) = true)
    (a_is_relink : PySem.W.nsIn K mainGlobals "is_relink" = some (some (.ref f_is_relink))) (l_is_relink : K.lookup f_is_relink = some ⟨oc_is_relink, od_is_relink, .func (PySem.W.fnOf "is_relink" "is_relink" (defArgs s_is_relink) (defBody s_is_relink) (defScope s_is_relink) .none kV_is_relink dc_is_relink pm_is_relink an_is_relink cd_is_relink ct_is_relink), sl_is_relink⟩) (co_is_relink : PySem.W.codeIn K cd_is_relink "is_relink" = true) (k_is_relink : PySem.W.keepIn K (.ref f_is_relink) = true)
    (a_check_relink : PySem.W.nsIn K mainGlobals "check_relink" = some (some (.ref f_check_relink))) (l_check_relink : K.lookup f_check_relink = some ⟨oc_check_relink, od_check_relink, .func (PySem.W.fnOf "check_relink" "check_relink" (defArgs s_check_relink) (defBody s_check_relink) (defScope s_check_relink) .none kV_check_relink dc_check_relink pm_check_relink an_check_relink cd_check_relink ct_check_relink), sl_check_relink⟩) (co_check_relink : PySem.W.codeIn K cd_check_relink "check_relink" = true) (k_check_relink : PySem.W.keepIn K (.ref f_check_relink) = true)
    (a_link_between : PySem.W.nsIn K mainGlobals "link_between" = some (some (.ref f_link_between))) (l_link_between : K.lookup f_link_between = some ⟨oc_link_between, od_link_between, .func (PySem.W.fnOf "link_between" "link_between" (defArgs s_link_between) (defBody s_link_between) (defScope s_link_between) .none kV_link_between dc_link_between pm_link_between an_link_between cd_link_between ct_link_between), sl_link_between⟩) (co_link_between : PySem.W.codeIn K cd_link_between "link_between" = true) (k_link_between : PySem.W.keepIn K (.ref f_link_between) = true)
    (a_added_link : PySem.W.nsIn K mainGlobals "added_link" = some (some (.ref f_added_link))) (l_added_link : K.lookup f_added_link = some ⟨oc_added_link, od_added_link, .func (PySem.W.fnOf "added_link" "added_link" (defArgs s_added_link) (defBody s_added_link) (defScope s_added_link) .none kV_added_link dc_added_link pm_added_link an_added_link cd_added_link ct_added_link), sl_added_link⟩) (co_added_link : PySem.W.codeIn K cd_added_link "added_link" = true) (k_added_link : PySem.W.keepIn K (.ref f_added_link) = true)
    (a_removed_link : PySem.W.nsIn K mainGlobals "removed_link" = some (some (.ref f_removed_link))) (l_removed_link : K.lookup f_removed_link = some ⟨oc_removed_link, od_removed_link, .func (PySem.W.fnOf "removed_link" "removed_link" (defArgs s_removed_link) (defBody s_removed_link) (defScope s_removed_link) .none kV_removed_link dc_removed_link pm_removed_link an_removed_link cd_removed_link ct_removed_link), sl_removed_link⟩) (co_removed_link : PySem.W.codeIn K cd_removed_link "removed_link" = true) (k_removed_link : PySem.W.keepIn K (.ref f_removed_link) = true)
    (a_position : PySem.W.nsIn K mainGlobals "position" = some (some (.ref f_position))) (l_position : K.lookup f_position = some ⟨oc_position, od_position, .func (PySem.W.fnOf "position" "position" (defArgs s_position) (defBody s_position) (defScope s_position) .none kV_position dc_position pm_position an_position cd_position ct_position), sl_position⟩) (co_position : PySem.W.codeIn K cd_position "position" = true) (k_position : PySem.W.keepIn K (.ref f_position) = true)
    (a_is_near : PySem.W.nsIn K mainGlobals "is_near" = some (some (.ref f_is_near))) (l_is_near : K.lookup f_is_near = some ⟨oc_is_near, od_is_near, .func (PySem.W.fnOf "is_near" "is_near" (defArgs s_is_near) (defBody s_is_near) (defScope s_is_near) .none kV_is_near dc_is_near pm_is_near an_is_near cd_is_near ct_is_near), sl_is_near⟩) (co_is_near : PySem.W.codeIn K cd_is_near "is_near" = true) (k_is_near : PySem.W.keepIn K (.ref f_is_near) = true)
    (a_are_independent : PySem.W.nsIn K mainGlobals "are_independent" = some (some (.ref f_are_independent))) (l_are_independent : K.lookup f_are_independent = some ⟨oc_are_independent, od_are_independent, .func (PySem.W.fnOf "are_independent" "are_independent" (defArgs s_are_independent) (defBody s_are_independent) (defScope s_are_independent) .none kV_are_independent dc_are_independent pm_are_independent an_are_independent cd_are_independent ct_are_independent), sl_are_independent⟩) (co_are_independent : PySem.W.codeIn K cd_are_independent "are_independent" = true) (k_are_independent : PySem.W.keepIn K (.ref f_are_independent) = true)
    (a_law_rng : PySem.W.nsIn K mainGlobals "_law_rng" = some (some (.ref f_law_rng))) (l_law_rng : K.lookup f_law_rng = some ⟨oc_law_rng, od_law_rng, .func (PySem.W.fnOf "_law_rng" "_law_rng" (defArgs s_law_rng) (defBody s_law_rng) (defScope s_law_rng) .none kV_law_rng dc_law_rng pm_law_rng an_law_rng cd_law_rng ct_law_rng), sl_law_rng⟩) (co_law_rng : PySem.W.codeIn K cd_law_rng "_law_rng" = true) (k_law_rng : PySem.W.keepIn K (.ref f_law_rng) = true)
    (a_law_draw : PySem.W.nsIn K mainGlobals "_law_draw" = some (some (.ref f_law_draw))) (l_law_draw : K.lookup f_law_draw = some ⟨oc_law_draw, od_law_draw, .func (PySem.W.fnOf "_law_draw" "_law_draw" (defArgs s_law_draw) (defBody s_law_draw) (defScope s_law_draw) .none kV_law_draw dc_law_draw pm_law_draw an_law_draw cd_law_draw ct_law_draw), sl_law_draw⟩) (co_law_draw : PySem.W.codeIn K cd_law_draw "_law_draw" = true) (k_law_draw : PySem.W.keepIn K (.ref f_law_draw) = true)
    (a_law_names : PySem.W.nsIn K mainGlobals "_law_names" = some (some (.ref f_law_names))) (l_law_names : K.lookup f_law_names = some ⟨oc_law_names, od_law_names, .func (PySem.W.fnOf "_law_names" "_law_names" (defArgs s_law_names) (defBody s_law_names) (defScope s_law_names) .none kV_law_names dc_law_names pm_law_names an_law_names cd_law_names ct_law_names), sl_law_names⟩) (co_law_names : PySem.W.codeIn K cd_law_names "_law_names" = true) (k_law_names : PySem.W.keepIn K (.ref f_law_names) = true)
    (a_law_shuffled : PySem.W.nsIn K mainGlobals "_law_shuffled" = some (some (.ref f_law_shuffled))) (l_law_shuffled : K.lookup f_law_shuffled = some ⟨oc_law_shuffled, od_law_shuffled, .func (PySem.W.fnOf "_law_shuffled" "_law_shuffled" (defArgs s_law_shuffled) (defBody s_law_shuffled) (defScope s_law_shuffled) .none kV_law_shuffled dc_law_shuffled pm_law_shuffled an_law_shuffled cd_law_shuffled ct_law_shuffled), sl_law_shuffled⟩) (co_law_shuffled : PySem.W.codeIn K cd_law_shuffled "_law_shuffled" = true) (k_law_shuffled : PySem.W.keepIn K (.ref f_law_shuffled) = true)
    (a_law_odd : PySem.W.nsIn K mainGlobals "_law_odd" = some (some (.ref f_law_odd))) (l_law_odd : K.lookup f_law_odd = some ⟨oc_law_odd, od_law_odd, .func (PySem.W.fnOf "_law_odd" "_law_odd" (defArgs s_law_odd) (defBody s_law_odd) (defScope s_law_odd) .none kV_law_odd dc_law_odd pm_law_odd an_law_odd cd_law_odd ct_law_odd), sl_law_odd⟩) (co_law_odd : PySem.W.codeIn K cd_law_odd "_law_odd" = true) (k_law_odd : PySem.W.keepIn K (.ref f_law_odd) = true)
    (a_law_is_name : PySem.W.nsIn K mainGlobals "_law_is_name" = some (some (.ref f_law_is_name))) (l_law_is_name : K.lookup f_law_is_name = some ⟨oc_law_is_name, od_law_is_name, .func (PySem.W.fnOf "_law_is_name" "_law_is_name" (defArgs s_law_is_name) (defBody s_law_is_name) (defScope s_law_is_name) .none kV_law_is_name dc_law_is_name pm_law_is_name an_law_is_name cd_law_is_name ct_law_is_name), sl_law_is_name⟩) (co_law_is_name : PySem.W.codeIn K cd_law_is_name "_law_is_name" = true) (k_law_is_name : PySem.W.keepIn K (.ref f_law_is_name) = true)
    (a_law_is_right : PySem.W.nsIn K mainGlobals "_law_is_right" = some (some (.ref f_law_is_right))) (l_law_is_right : K.lookup f_law_is_right = some ⟨oc_law_is_right, od_law_is_right, .func (PySem.W.fnOf "_law_is_right" "_law_is_right" (defArgs s_law_is_right) (defBody s_law_is_right) (defScope s_law_is_right) .none kV_law_is_right dc_law_is_right pm_law_is_right an_law_is_right cd_law_is_right ct_law_is_right), sl_law_is_right⟩) (co_law_is_right : PySem.W.codeIn K cd_law_is_right "_law_is_right" = true) (k_law_is_right : PySem.W.keepIn K (.ref f_law_is_right) = true)
    (a_law_drawn : PySem.W.nsIn K mainGlobals "_law_drawn" = some (some (.ref f_law_drawn))) (l_law_drawn : K.lookup f_law_drawn = some ⟨oc_law_drawn, od_law_drawn, .func (PySem.W.fnOf "_law_drawn" "_law_drawn" (defArgs s_law_drawn) (defBody s_law_drawn) (defScope s_law_drawn) .none kV_law_drawn dc_law_drawn pm_law_drawn an_law_drawn cd_law_drawn ct_law_drawn), sl_law_drawn⟩) (co_law_drawn : PySem.W.codeIn K cd_law_drawn "_law_drawn" = true) (k_law_drawn : PySem.W.keepIn K (.ref f_law_drawn) = true)
    (a_law_spoilt : PySem.W.nsIn K mainGlobals "_law_spoilt" = some (some (.ref f_law_spoilt))) (l_law_spoilt : K.lookup f_law_spoilt = some ⟨oc_law_spoilt, od_law_spoilt, .func (PySem.W.fnOf "_law_spoilt" "_law_spoilt" (defArgs s_law_spoilt) (defBody s_law_spoilt) (defScope s_law_spoilt) .none kV_law_spoilt dc_law_spoilt pm_law_spoilt an_law_spoilt cd_law_spoilt ct_law_spoilt), sl_law_spoilt⟩) (co_law_spoilt : PySem.W.codeIn K cd_law_spoilt "_law_spoilt" = true) (k_law_spoilt : PySem.W.keepIn K (.ref f_law_spoilt) = true)
    (a_law_call : PySem.W.nsIn K mainGlobals "_law_call" = some (some (.ref f_law_call))) (l_law_call : K.lookup f_law_call = some ⟨oc_law_call, od_law_call, .func (PySem.W.fnOf "_law_call" "_law_call" (defArgs s_law_call) (defBody s_law_call) (defScope s_law_call) .none kV_law_call dc_law_call pm_law_call an_law_call cd_law_call ct_law_call), sl_law_call⟩) (co_law_call : PySem.W.codeIn K cd_law_call "_law_call" = true) (k_law_call : PySem.W.keepIn K (.ref f_law_call) = true)
    (a_law_told : PySem.W.nsIn K mainGlobals "_law_told" = some (some (.ref f_law_told))) (l_law_told : K.lookup f_law_told = some ⟨oc_law_told, od_law_told, .func (PySem.W.fnOf "_law_told" "_law_told" (defArgs s_law_told) (defBody s_law_told) (defScope s_law_told) .none kV_law_told dc_law_told pm_law_told an_law_told cd_law_told ct_law_told), sl_law_told⟩) (co_law_told : PySem.W.codeIn K cd_law_told "_law_told" = true) (k_law_told : PySem.W.keepIn K (.ref f_law_told) = true)
    (a_law_links_right : PySem.W.nsIn K mainGlobals "_law_links_right" = some (some (.ref f_law_links_right))) (l_law_links_right : K.lookup f_law_links_right = some ⟨oc_law_links_right, od_law_links_right, .func (PySem.W.fnOf "_law_links_right" "_law_links_right" (defArgs s_law_links_right) (defBody s_law_links_right) (defScope s_law_links_right) .none kV_law_links_right dc_law_links_right pm_law_links_right an_law_links_right cd_law_links_right ct_law_links_right), sl_law_links_right⟩) (co_law_links_right : PySem.W.codeIn K cd_law_links_right "_law_links_right" = true) (k_law_links_right : PySem.W.keepIn K (.ref f_law_links_right) = true)
    (a_law_value_right : PySem.W.nsIn K mainGlobals "_law_value_right" = some (some (.ref f_law_value_right))) (l_law_value_right : K.lookup f_law_value_right = some ⟨oc_law_value_right, od_law_value_right, .func (PySem.W.fnOf "_law_value_right" "_law_value_right" (defArgs s_law_value_right) (defBody s_law_value_right) (defScope s_law_value_right) .none kV_law_value_right dc_law_value_right pm_law_value_right an_law_value_right cd_law_value_right ct_law_value_right), sl_law_value_right⟩) (co_law_value_right : PySem.W.codeIn K cd_law_value_right "_law_value_right" = true) (k_law_value_right : PySem.W.keepIn K (.ref f_law_value_right) = true)
    (a_law_right : PySem.W.nsIn K mainGlobals "_law_right" = some (some (.ref f_law_right))) (l_law_right : K.lookup f_law_right = some ⟨oc_law_right, od_law_right, .func (PySem.W.fnOf "_law_right" "_law_right" (defArgs s_law_right) (defBody s_law_right) (defScope s_law_right) .none kV_law_right dc_law_right pm_law_right an_law_right cd_law_right ct_law_right), sl_law_right⟩) (co_law_right : PySem.W.codeIn K cd_law_right "_law_right" = true) (k_law_right : PySem.W.keepIn K (.ref f_law_right) = true)
    (a_law : PySem.W.nsIn K mainGlobals "law" = some (some (.ref f_law))) (l_law : K.lookup f_law = some ⟨oc_law, od_law, .func (PySem.W.fnOf "law" "law" (defArgs s_law) (defBody s_law) (defScope s_law) .none kV_law dc_law pm_law an_law cd_law ct_law), sl_law⟩) (co_law : PySem.W.codeIn K cd_law "law" = true) (k_law : PySem.W.keepIn K (.ref f_law) = true)
    (v_LETTERS : PySem.W.nsIn K mainGlobals "LETTERS" = some (some (.str LET t_LETTERS)))
    (v_LONGEST_NAME : PySem.W.nsIn K mainGlobals "LONGEST_NAME" = some (some (.int 8 t_LONGEST_NAME)))
    (v_SHORTEST_PATH : PySem.W.nsIn K mainGlobals "SHORTEST_PATH" = some (some (.int 3 t_SHORTEST_PATH)))
    (z_len : PySem.W.nsIn K mainGlobals "len" = some none)
    (z_range : PySem.W.nsIn K mainGlobals "range" = some none)
    (z_abs : PySem.W.nsIn K mainGlobals "abs" = some none)
    (z_max : PySem.W.nsIn K mainGlobals "max" = some none)
    (z_min : PySem.W.nsIn K mainGlobals "min" = some none)
    (z_divmod : PySem.W.nsIn K mainGlobals "divmod" = some none)
    (z_isinstance : PySem.W.nsIn K mainGlobals "isinstance" = some none)
    (z_str : PySem.W.nsIn K mainGlobals "str" = some none)
    (z_int : PySem.W.nsIn K mainGlobals "int" = some none)
    (z_bool : PySem.W.nsIn K mainGlobals "bool" = some none)
    (z_tuple : PySem.W.nsIn K mainGlobals "tuple" = some none)
    (z_list : PySem.W.nsIn K mainGlobals "list" = some none)
    (z_set : PySem.W.nsIn K mainGlobals "set" = some none)
    (z_dict : PySem.W.nsIn K mainGlobals "dict" = some none)
    (z_all : PySem.W.nsIn K mainGlobals "all" = some none)
    (z_any : PySem.W.nsIn K mainGlobals "any" = some none)
    (z_repr : PySem.W.nsIn K mainGlobals "repr" = some none)
    (z_sorted : PySem.W.nsIn K mainGlobals "sorted" = some none)
    (z_enumerate : PySem.W.nsIn K mainGlobals "enumerate" = some none)
    (z_zip : PySem.W.nsIn K mainGlobals "zip" = some none)
    (e_InvalidRelink : PySem.W.nsIn K mainGlobals "InvalidRelink" = some (some (.ref c_InvalidRelink))) (S_InvalidRelink : XCl K c_InvalidRelink ∧ ∀ (P : Program) (w : World) (mg : Str → Option Value) (base : Heap), mg "InvalidRelink" = some (.ref c_InvalidRelink) → Rz P w K mg base "InvalidRelink" "value" c_InvalidRelink)
    (e_UnknownHost : PySem.W.nsIn K mainGlobals "UnknownHost" = some (some (.ref c_UnknownHost))) (S_UnknownHost : XCl K c_UnknownHost ∧ ∀ (P : Program) (w : World) (mg : Str → Option Value) (base : Heap), mg "UnknownHost" = some (.ref c_UnknownHost) → Rz P w K mg base "UnknownHost" "host" c_UnknownHost)
    (e_R : PySem.W.nsIn K mainGlobals "RelinkTreeError" = some (some (.ref c_R)))
    (z_LE : PySem.W.nsIn K mainGlobals "LookupError" = some none)
    (z_VE : PySem.W.nsIn K mainGlobals "ValueError" = some none)
    (cg : PySem.W.specialIn K (.builtin "object.__class__") "__get__" = some (some (.builtin "getset_descriptor.__get__")))
    (ct : PySem.W.takesIn K (.builtin "object.__class__") = some true)
    (cl_R : PySem.W.clsIn K c_R = some cd_R)
    (tP_R : PySem.W.typeIn K (.ref c_R) = some (.type "type"))
    (bP_C : PySem.W.subIn K (.ref c_InvalidRelink) (.type "BaseException") = some true)
    (iP_C : PySem.W.clsIn K c_InvalidRelink = some cd_C)
    (tP_C : PySem.W.typeIn K (.ref c_InvalidRelink) = some (.type "type"))
    (bP_U : PySem.W.subIn K (.ref c_UnknownHost) (.type "BaseException") = some true)
    (iP_U : PySem.W.clsIn K c_UnknownHost = some cd_U)
    (tP_U : PySem.W.typeIn K (.ref c_UnknownHost) = some (.type "type"))
    (s_CC : PySem.W.subIn K (.ref c_InvalidRelink) (.ref c_InvalidRelink) = some true)
    (s_UC : PySem.W.subIn K (.ref c_UnknownHost) (.ref c_InvalidRelink) = some false)
    (s_UU : PySem.W.subIn K (.ref c_UnknownHost) (.ref c_UnknownHost) = some true)
    (s_CR : PySem.W.subIn K (.ref c_InvalidRelink) (.ref c_R) = some true)
    (ne_CR : c_InvalidRelink ≠ c_R)
    (s_UR : PySem.W.subIn K (.ref c_UnknownHost) (.ref c_R) = some false)
    (ne_UR : c_UnknownHost ≠ c_R)
    (s_CV : PySem.W.subIn K (.ref c_InvalidRelink) (.type "ValueError") = some true)
    (s_UL : PySem.W.subIn K (.ref c_UnknownHost) (.type "LookupError") = some true)
    (f_C : PySem.W.findIn K (.ref c_InvalidRelink) "value" = some none)
    (f_U : PySem.W.findIn K (.ref c_UnknownHost) "host" = some none) :
    ∃ fd : FuncData, (∀ (s : Shared) (v : Value), BindsTo s fd ⟨[v], []⟩ [("_law_script", v)]) ∧ ∀ base : Heap, K.In base → base.Ns mainGlobals mg → FnG l.prog w K mg base CX0 13 fa fd ["_law_script"] (spLaw K) := by
  have e := hfa.symm.trans (PySem.W.mg_of X G a_law)
  cases e
  have F_is_integer_from := fun_mk (st := s_is_integer_from) l_is_integer_from co_is_integer_from k_is_integer_from
  have b_is_integer_from := F_is_integer_from.binds (ps := ["value", "least"]) fun _ _ _ _ _ _ us hl => match us, hl with | [_, _], _ => rfl
  have m_is_integer_from := PySem.W.mg_of X G a_is_integer_from
  have F_is_index := fun_mk (st := s_is_index) l_is_index co_is_index k_is_index
  have b_is_index := F_is_index.binds (ps := ["value", "size"]) fun _ _ _ _ _ _ us hl => match us, hl with | [_, _], _ => rfl
  have m_is_index := PySem.W.mg_of X G a_is_index
  have F_is_text_of := fun_mk (st := s_is_text_of) l_is_text_of co_is_text_of k_is_text_of
  have b_is_text_of := F_is_text_of.binds (ps := ["value", "characters", "longest"]) fun _ _ _ _ _ _ us hl => match us, hl with | [_, _, _], _ => rfl
  have m_is_text_of := PySem.W.mg_of X G a_is_text_of
  have F_is_host_name := fun_mk (st := s_is_host_name) l_is_host_name co_is_host_name k_is_host_name
  have b_is_host_name := F_is_host_name.binds (ps := ["value"]) fun _ _ _ _ _ _ us hl => match us, hl with | [_], _ => rfl
  have m_is_host_name := PySem.W.mg_of X G a_is_host_name
  have F_is_relink_path := fun_mk (st := s_is_relink_path) l_is_relink_path co_is_relink_path k_is_relink_path
  have b_is_relink_path := F_is_relink_path.binds (ps := ["value"]) fun _ _ _ _ _ _ us hl => match us, hl with | [_], _ => rfl
  have m_is_relink_path := PySem.W.mg_of X G a_is_relink_path
  have F_is_cut_of := fun_mk (st := s_is_cut_of) l_is_cut_of co_is_cut_of k_is_cut_of
  have b_is_cut_of := F_is_cut_of.binds (ps := ["path", "value"]) fun _ _ _ _ _ _ us hl => match us, hl with | [_, _], _ => rfl
  have m_is_cut_of := PySem.W.mg_of X G a_is_cut_of
  have F_is_relink := fun_mk (st := s_is_relink) l_is_relink co_is_relink k_is_relink
  have b_is_relink := F_is_relink.binds (ps := ["value"]) fun _ _ _ _ _ _ us hl => match us, hl with | [_], _ => rfl
  have m_is_relink := PySem.W.mg_of X G a_is_relink
  have F_check_relink := fun_mk (st := s_check_relink) l_check_relink co_check_relink k_check_relink
  have b_check_relink := F_check_relink.binds (ps := ["value"]) fun _ _ _ _ _ _ us hl => match us, hl with | [_], _ => rfl
  have m_check_relink := PySem.W.mg_of X G a_check_relink
  have F_link_between := fun_mk (st := s_link_between) l_link_between co_link_between k_link_between
  have b_link_between := F_link_between.binds (ps := ["one", "other"]) fun _ _ _ _ _ _ us hl => match us, hl with | [_, _], _ => rfl
  have m_link_between := PySem.W.mg_of X G a_link_between
  have F_added_link := fun_mk (st := s_added_link) l_added_link co_added_link k_added_link
  have b_added_link := F_added_link.binds (ps := ["relink"]) fun _ _ _ _ _ _ us hl => match us, hl with | [_], _ => rfl
  have m_added_link := PySem.W.mg_of X G a_added_link
  have F_removed_link := fun_mk (st := s_removed_link) l_removed_link co_removed_link k_removed_link
  have b_removed_link := F_removed_link.binds (ps := ["relink"]) fun _ _ _ _ _ _ us hl => match us, hl with | [_], _ => rfl
  have m_removed_link := PySem.W.mg_of X G a_removed_link
  have F_position := fun_mk (st := s_position) l_position co_position k_position
  have b_position := F_position.binds (ps := ["relink", "host"]) fun _ _ _ _ _ _ us hl => match us, hl with | [_, _], _ => rfl
  have m_position := PySem.W.mg_of X G a_position
  have F_is_near := fun_mk (st := s_is_near) l_is_near co_is_near k_is_near
  have b_is_near := F_is_near.binds (ps := ["relink", "host"]) fun _ _ _ _ _ _ us hl => match us, hl with | [_, _], _ => rfl
  have m_is_near := PySem.W.mg_of X G a_is_near
  have F_are_independent := fun_mk (st := s_are_independent) l_are_independent co_are_independent k_are_independent
  have b_are_independent := F_are_independent.binds (ps := ["one", "other"]) fun _ _ _ _ _ _ us hl => match us, hl with | [_, _], _ => rfl
  have m_are_independent := PySem.W.mg_of X G a_are_independent
  have F_law_rng := fun_mk (st := s_law_rng) l_law_rng co_law_rng k_law_rng
  have b_law_rng := F_law_rng.binds (ps := ["_law_script", "_law_k"]) fun _ _ _ _ _ _ us hl => match us, hl with | [_, _], _ => rfl
  have m_law_rng := PySem.W.mg_of X G a_law_rng
  have F_law_draw := fun_mk (st := s_law_draw) l_law_draw co_law_draw k_law_draw
  have b_law_draw := F_law_draw.binds (ps := ["_law_rng_here", "_law_many"]) fun _ _ _ _ _ _ us hl => match us, hl with | [_, _], _ => rfl
  have m_law_draw := PySem.W.mg_of X G a_law_draw
  have F_law_names := fun_mk (st := s_law_names) l_law_names co_law_names k_law_names
  have b_law_names := F_law_names.binds (ps := ["_law_rng_here", "_law_many"]) fun _ _ _ _ _ _ us hl => match us, hl with | [_, _], _ => rfl
  have m_law_names := PySem.W.mg_of X G a_law_names
  have F_law_shuffled := fun_mk (st := s_law_shuffled) l_law_shuffled co_law_shuffled k_law_shuffled
  have b_law_shuffled := F_law_shuffled.binds (ps := ["_law_rng_here", "_law_some"]) fun _ _ _ _ _ _ us hl => match us, hl with | [_, _], _ => rfl
  have m_law_shuffled := PySem.W.mg_of X G a_law_shuffled
  have F_law_odd := fun_mk (st := s_law_odd) l_law_odd co_law_odd k_law_odd
  have b_law_odd := F_law_odd.binds (ps := ["_law_rng_here"]) fun _ _ _ _ _ _ us hl => match us, hl with | [_], _ => rfl
  have m_law_odd := PySem.W.mg_of X G a_law_odd
  have F_law_is_name := fun_mk (st := s_law_is_name) l_law_is_name co_law_is_name k_law_is_name
  have b_law_is_name := F_law_is_name.binds (ps := ["_law_value"]) fun _ _ _ _ _ _ us hl => match us, hl with | [_], _ => rfl
  have m_law_is_name := PySem.W.mg_of X G a_law_is_name
  have F_law_is_right := fun_mk (st := s_law_is_right) l_law_is_right co_law_is_right k_law_is_right
  have b_law_is_right := F_law_is_right.binds (ps := ["_law_value"]) fun _ _ _ _ _ _ us hl => match us, hl with | [_], _ => rfl
  have m_law_is_right := PySem.W.mg_of X G a_law_is_right
  have F_law_drawn := fun_mk (st := s_law_drawn) l_law_drawn co_law_drawn k_law_drawn
  have b_law_drawn := F_law_drawn.binds (ps := ["_law_rng_here", "_law_names_here"]) fun _ _ _ _ _ _ us hl => match us, hl with | [_, _], _ => rfl
  have m_law_drawn := PySem.W.mg_of X G a_law_drawn
  have F_law_spoilt := fun_mk (st := s_law_spoilt) l_law_spoilt co_law_spoilt k_law_spoilt
  have b_law_spoilt := F_law_spoilt.binds (ps := ["_law_rng_here", "_law_value"]) fun _ _ _ _ _ _ us hl => match us, hl with | [_, _], _ => rfl
  have m_law_spoilt := PySem.W.mg_of X G a_law_spoilt
  have F_law_call := fun_mk (st := s_law_call) l_law_call co_law_call k_law_call
  have b_law_call := F_law_call.binds (ps := ["_law_kind", "_law_value", "_law_name"]) fun _ _ _ _ _ _ us hl => match us, hl with | [_, _, _], _ => rfl
  have m_law_call := PySem.W.mg_of X G a_law_call
  have F_law_told := fun_mk (st := s_law_told) l_law_told co_law_told k_law_told
  have b_law_told := F_law_told.binds (ps := ["_law_kind", "_law_value", "_law_name"]) fun _ _ _ _ _ _ us hl => match us, hl with | [_, _, _], _ => rfl
  have m_law_told := PySem.W.mg_of X G a_law_told
  have F_law_links_right := fun_mk (st := s_law_links_right) l_law_links_right co_law_links_right k_law_links_right
  have b_law_links_right := F_law_links_right.binds (ps := ["_law_value", "_law_names_here", "_law_second"]) fun _ _ _ _ _ _ us hl => match us, hl with | [_, _, _], _ => rfl
  have m_law_links_right := PySem.W.mg_of X G a_law_links_right
  have F_law_value_right := fun_mk (st := s_law_value_right) l_law_value_right co_law_value_right k_law_value_right
  have b_law_value_right := F_law_value_right.binds (ps := ["_law_rng_here", "_law_value", "_law_names_here", "_law_second"]) fun _ _ _ _ _ _ us hl => match us, hl with | [_, _, _, _], _ => rfl
  have m_law_value_right := PySem.W.mg_of X G a_law_value_right
  have F_law_right := fun_mk (st := s_law_right) l_law_right co_law_right k_law_right
  have b_law_right := F_law_right.binds (ps := ["_law_rng_here"]) fun _ _ _ _ _ _ us hl => match us, hl with | [_], _ => rfl
  have m_law_right := PySem.W.mg_of X G a_law_right
  have F_law := fun_mk (st := s_law) l_law co_law k_law
  have b_law := F_law.binds (ps := ["_law_script"]) fun _ _ _ _ _ _ us hl => match us, hl with | [_], _ => rfl
  have m_law := PySem.W.mg_of X G a_law
  have w_LETTERS := PySem.W.mg_of X G v_LETTERS
  have w_LONGEST_NAME := PySem.W.mg_of X G v_LONGEST_NAME
  have w_SHORTEST_PATH := PySem.W.mg_of X G v_SHORTEST_PATH
  have Y : Bn mg := ⟨PySem.W.mg_none_of X G z_len, PySem.W.mg_none_of X G z_range, PySem.W.mg_none_of X G z_abs, PySem.W.mg_none_of X G z_max, PySem.W.mg_none_of X G z_min, PySem.W.mg_none_of X G z_divmod, PySem.W.mg_none_of X G z_isinstance, PySem.W.mg_none_of X G z_str, PySem.W.mg_none_of X G z_int, PySem.W.mg_none_of X G z_bool, PySem.W.mg_none_of X G z_tuple, PySem.W.mg_none_of X G z_list, PySem.W.mg_none_of X G z_set, PySem.W.mg_none_of X G z_dict, PySem.W.mg_none_of X G z_all, PySem.W.mg_none_of X G z_any, PySem.W.mg_none_of X G z_repr, PySem.W.mg_none_of X G z_sorted, PySem.W.mg_none_of X G z_enumerate, PySem.W.mg_none_of X G z_zip⟩
  refine ⟨PySem.W.fnOf "law" "law" (defArgs s_law) (defBody s_law) (defScope s_law) .none kV_law dc_law pm_law an_law cd_law ct_law, fun s v => .of_eq rfl, fun base _ _ => ?_⟩
  have R_InvalidRelink := S_InvalidRelink.2 l.prog w mg base (PySem.W.mg_of X G e_InvalidRelink)
  have R_UnknownHost := S_UnknownHost.2 l.prog w mg base (PySem.W.mg_of X G e_UnknownHost)
  have TC : TxtC mg := ⟨⟨_, w_LETTERS⟩, ⟨_, w_LONGEST_NAME⟩⟩
  have X3 : X16 K c_InvalidRelink c_UnknownHost c_R := ⟨S_InvalidRelink.1, S_UnknownHost.1, exm_of bP_C iP_C tP_C s_CC, exm_of bP_C iP_C tP_C s_UC, exm_of bP_U iP_U tP_U s_UU, kit_sub ne_CR cl_R tP_R s_CR, kit_bt (by decide +kernel) s_CV, kit_sub ne_UR cl_R tP_R s_UR, kit_bt (by decide +kernel) s_UL, f_C, f_U⟩
  have G_is_integer_from := (⟨⟨_, _, m_is_integer_from, k_is_integer_from, b_is_integer_from, ok_from F_is_integer_from Y⟩⟩ : Fk l.prog w K mg base _ _ "is_integer_from" _ _)
  have G_is_index := (⟨⟨_, _, m_is_index, k_is_index, b_is_index, ok_idx F_is_index G_is_integer_from⟩⟩ : Fk l.prog w K mg base _ _ "is_index" _ _)
  have G_is_text_of := (⟨⟨_, _, m_is_text_of, k_is_text_of, b_is_text_of, ok_text F_is_text_of Y⟩⟩ : Fk l.prog w K mg base _ _ "is_text_of" _ _)
  have G_is_host_name := (⟨⟨_, _, m_is_host_name, k_is_host_name, b_is_host_name, ok_host F_is_host_name TC G_is_text_of⟩⟩ : Fk l.prog w K mg base _ _ "is_host_name" _ _)
  have G_is_relink_path := (⟨⟨_, _, m_is_relink_path, k_is_relink_path, b_is_relink_path, ok_path F_is_relink_path Y ⟨_, w_SHORTEST_PATH⟩ G_is_host_name⟩⟩ : Fk l.prog w K mg base _ _ "is_relink_path" _ _)
  have G_is_cut_of := (⟨⟨_, _, m_is_cut_of, k_is_cut_of, b_is_cut_of, ok_cut F_is_cut_of Y G_is_index⟩⟩ : Fk l.prog w K mg base _ _ "is_cut_of" _ _)
  have G_is_relink := (⟨⟨_, _, m_is_relink, k_is_relink, b_is_relink, ok_rel F_is_relink Y G_is_relink_path G_is_cut_of⟩⟩ : Fk l.prog w K mg base _ _ "is_relink" _ _)
  have G_check_relink := (⟨⟨_, _, m_check_relink, k_check_relink, b_check_relink, ok_chk F_check_relink R_InvalidRelink G_is_relink⟩⟩ : Fk l.prog w K mg base _ _ "check_relink" _ _)
  have G_link_between := (⟨⟨_, _, m_link_between, k_link_between, b_link_between, ok_lnk F_link_between⟩⟩ : Fk l.prog w K mg base _ _ "link_between" _ _)
  have G_added_link := (⟨⟨_, _, m_added_link, k_added_link, b_added_link, ok_add F_added_link G_check_relink G_link_between⟩⟩ : Fk l.prog w K mg base _ _ "added_link" _ _)
  have G_removed_link := (⟨⟨_, _, m_removed_link, k_removed_link, b_removed_link, ok_rem F_removed_link G_check_relink G_link_between⟩⟩ : Fk l.prog w K mg base _ _ "removed_link" _ _)
  have G_position := (⟨⟨_, _, m_position, k_position, b_position, ok_pos F_position R_UnknownHost G_check_relink G_is_host_name⟩⟩ : Fk l.prog w K mg base _ _ "position" _ _)
  have G_is_near := (⟨⟨_, _, m_is_near, k_is_near, b_is_near, ok_near F_is_near G_position⟩⟩ : Fk l.prog w K mg base _ _ "is_near" _ _)
  have G_are_independent := (⟨⟨_, _, m_are_independent, k_are_independent, b_are_independent, ok_ind F_are_independent Y G_check_relink⟩⟩ : Fk l.prog w K mg base _ _ "are_independent" _ _)
  have G_law_rng := (⟨⟨_, _, m_law_rng, k_law_rng, b_law_rng, ok_pot F_law_rng Y⟩⟩ : Fk l.prog w K mg base _ _ "_law_rng" _ _)
  have G_law_draw := (⟨⟨_, _, m_law_draw, k_law_draw, b_law_draw, ok_draw F_law_draw Y⟩⟩ : Fk l.prog w K mg base _ _ "_law_draw" _ _)
  have G_law_names := (⟨⟨_, _, m_law_names, k_law_names, b_law_names, ok_names F_law_names Y G_law_draw⟩⟩ : Fk l.prog w K mg base _ _ "_law_names" _ _)
  have G_law_shuffled := (⟨⟨_, _, m_law_shuffled, k_law_shuffled, b_law_shuffled, ok_shuf F_law_shuffled Y G_law_draw⟩⟩ : Fk l.prog w K mg base _ _ "_law_shuffled" _ _)
  have G_law_odd := (⟨⟨_, _, m_law_odd, k_law_odd, b_law_odd, ok_odd F_law_odd Y G_law_draw⟩⟩ : Fk l.prog w K mg base _ _ "_law_odd" _ _)
  have G_law_is_name := (⟨⟨_, _, m_law_is_name, k_law_is_name, b_law_is_name, ok_isName F_law_is_name Y⟩⟩ : Fk l.prog w K mg base _ _ "_law_is_name" _ _)
  have G_law_is_right := (⟨⟨_, _, m_law_is_right, k_law_is_right, b_law_is_right, ok_isRight F_law_is_right Y G_law_is_name⟩⟩ : Fk l.prog w K mg base _ _ "_law_is_right" _ _)
  have G_law_drawn := (⟨⟨_, _, m_law_drawn, k_law_drawn, b_law_drawn, ok_drawn F_law_drawn Y G_law_draw G_law_shuffled⟩⟩ : Fk l.prog w K mg base _ _ "_law_drawn" _ _)
  have G_law_spoilt := (⟨⟨_, _, m_law_spoilt, k_law_spoilt, b_law_spoilt, ok_spAll F_law_spoilt m_law_spoilt k_law_spoilt b_law_spoilt Y G_law_draw G_law_odd 3⟩⟩ : Fk l.prog w K mg base _ _ "_law_spoilt" _ _)
  have G_law_call := (⟨⟨_, _, m_law_call, k_law_call, b_law_call, ok_call16 F_law_call G_added_link G_removed_link G_position G_is_near G_are_independent⟩⟩ : Fk l.prog w K mg base _ _ "_law_call" _ _)
  have G_law_told := (⟨⟨_, _, m_law_told, k_law_told, b_law_told, ok_told16 F_law_told Y (PySem.W.mg_of X G e_InvalidRelink) (PySem.W.mg_of X G e_UnknownHost) (PySem.W.mg_of X G e_R) (PySem.W.mg_none_of X G z_LE) (PySem.W.mg_none_of X G z_VE) X3 ⟨cg, ct⟩ G_law_call⟩⟩ : Fg l.prog w K mg base _ _ "_law_told" _ _)
  have G_law_links_right := (⟨⟨_, _, m_law_links_right, k_law_links_right, b_law_links_right, ok_lks F_law_links_right Y G_law_told⟩⟩ : Fg l.prog w K mg base _ _ "_law_links_right" _ _)
  have G_law_value_right := (⟨⟨_, _, m_law_value_right, k_law_value_right, b_law_value_right, ok_val F_law_value_right Y G_is_relink G_law_is_right G_law_odd G_law_told G_law_links_right⟩⟩ : Fg l.prog w K mg base _ _ "_law_value_right" _ _)
  have G_law_right := (⟨⟨_, _, m_law_right, k_law_right, b_law_right, ok_right16 F_law_right G_law_draw G_law_names Y G_law_shuffled G_law_drawn G_law_is_right G_law_odd G_law_spoilt G_law_value_right⟩⟩ : Fg l.prog w K mg base _ _ "_law_right" _ _)
  exact ok_law F_law Y G_law_rng G_law_right
end My

open PySem PySem.W PyProof.Rows in
set_option maxRecDepth 100000 in
set_option maxHeartbeats 0 in
theorem PySem.Challenge.cw_relinktree_k16_relinks_judged_holds : PySem.Challenge.rw_relinktree_k16_relinks_judged.Holds := by
  w_on; o_law; k_head; (case hw => w_witness2)
  k_fill
  refine Gy.walk_g (l := PySem.Challenge.rw_relinktree_k16_relinks_judged) (n := 63) (k := 13) (x := "_law_script") (sp := My.spLaw) rfl (by decide) rfl ⟨rfl, by decide, by decide⟩ (fun w h Y => PySem.W.kIn_of Y) ?F (fun K H a ns hl hS => ⟨a, ns, rfl, hS, hl, fun _ => rfl⟩)
  case F =>
    intro w mg fa h KX G hmg
    refine' My.all_mk KX G hmg ?a_is_integer_from ?l_is_integer_from ?co_is_integer_from ?k_is_integer_from ?a_is_index ?l_is_index ?co_is_index ?k_is_index ?a_is_text_of ?l_is_text_of ?co_is_text_of ?k_is_text_of ?a_is_host_name ?l_is_host_name ?co_is_host_name ?k_is_host_name ?a_is_relink_path ?l_is_relink_path ?co_is_relink_path ?k_is_relink_path ?a_is_cut_of ?l_is_cut_of ?co_is_cut_of ?k_is_cut_of ?a_is_relink ?l_is_relink ?co_is_relink ?k_is_relink ?a_check_relink ?l_check_relink ?co_check_relink ?k_check_relink ?a_link_between ?l_link_between ?co_link_between ?k_link_between ?a_added_link ?l_added_link ?co_added_link ?k_added_link ?a_removed_link ?l_removed_link ?co_removed_link ?k_removed_link ?a_position ?l_position ?co_position ?k_position ?a_is_near ?l_is_near ?co_is_near ?k_is_near ?a_are_independent ?l_are_independent ?co_are_independent ?k_are_independent ?a_law_rng ?l_law_rng ?co_law_rng ?k_law_rng ?a_law_draw ?l_law_draw ?co_law_draw ?k_law_draw ?a_law_names ?l_law_names ?co_law_names ?k_law_names ?a_law_shuffled ?l_law_shuffled ?co_law_shuffled ?k_law_shuffled ?a_law_odd ?l_law_odd ?co_law_odd ?k_law_odd ?a_law_is_name ?l_law_is_name ?co_law_is_name ?k_law_is_name ?a_law_is_right ?l_law_is_right ?co_law_is_right ?k_law_is_right ?a_law_drawn ?l_law_drawn ?co_law_drawn ?k_law_drawn ?a_law_spoilt ?l_law_spoilt ?co_law_spoilt ?k_law_spoilt ?a_law_call ?l_law_call ?co_law_call ?k_law_call ?a_law_told ?l_law_told ?co_law_told ?k_law_told ?a_law_links_right ?l_law_links_right ?co_law_links_right ?k_law_links_right ?a_law_value_right ?l_law_value_right ?co_law_value_right ?k_law_value_right ?a_law_right ?l_law_right ?co_law_right ?k_law_right ?a_law ?l_law ?co_law ?k_law ?v_LETTERS ?v_LONGEST_NAME ?v_SHORTEST_PATH ?z_len ?z_range ?z_abs ?z_max ?z_min ?z_divmod ?z_isinstance ?z_str ?z_int ?z_bool ?z_tuple ?z_list ?z_set ?z_dict ?z_all ?z_any ?z_repr ?z_sorted ?z_enumerate ?z_zip ?e_InvalidRelink ?S_InvalidRelink ?e_UnknownHost ?S_UnknownHost ?e_R ?z_LE ?z_VE ?cg ?ct ?cl_R ?tP_R ?bP_C ?iP_C ?tP_C ?bP_U ?iP_U ?tP_U ?s_CC ?s_UC ?s_UU ?s_CR ?ne_CR ?s_UR ?ne_UR ?s_CV ?s_UL ?f_C ?f_U
    (case a_is_integer_from => k_is)
    (case l_is_integer_from => k_is)
    (case co_is_integer_from => k_is)
    (case k_is_integer_from => k_is)
    (case a_is_index => k_is)
    (case l_is_index => k_is)
    (case co_is_index => k_is)
    (case k_is_index => k_is)
    (case a_is_text_of => k_is)
    (case l_is_text_of => k_is)
    (case co_is_text_of => k_is)
    (case k_is_text_of => k_is)
    (case a_is_host_name => k_is)
    (case l_is_host_name => k_is)
    (case co_is_host_name => k_is)
    (case k_is_host_name => k_is)
    (case a_is_relink_path => k_is)
    (case l_is_relink_path => k_is)
    (case co_is_relink_path => k_is)
    (case k_is_relink_path => k_is)
    (case a_is_cut_of => k_is)
    (case l_is_cut_of => k_is)
    (case co_is_cut_of => k_is)
    (case k_is_cut_of => k_is)
    (case a_is_relink => k_is)
    (case l_is_relink => k_is)
    (case co_is_relink => k_is)
    (case k_is_relink => k_is)
    (case a_check_relink => k_is)
    (case l_check_relink => k_is)
    (case co_check_relink => k_is)
    (case k_check_relink => k_is)
    (case a_link_between => k_is)
    (case l_link_between => k_is)
    (case co_link_between => k_is)
    (case k_link_between => k_is)
    (case a_added_link => k_is)
    (case l_added_link => k_is)
    (case co_added_link => k_is)
    (case k_added_link => k_is)
    (case a_removed_link => k_is)
    (case l_removed_link => k_is)
    (case co_removed_link => k_is)
    (case k_removed_link => k_is)
    (case a_position => k_is)
    (case l_position => k_is)
    (case co_position => k_is)
    (case k_position => k_is)
    (case a_is_near => k_is)
    (case l_is_near => k_is)
    (case co_is_near => k_is)
    (case k_is_near => k_is)
    (case a_are_independent => k_is)
    (case l_are_independent => k_is)
    (case co_are_independent => k_is)
    (case k_are_independent => k_is)
    (case a_law_rng => k_is)
    (case l_law_rng => k_is)
    (case co_law_rng => k_is)
    (case k_law_rng => k_is)
    (case a_law_draw => k_is)
    (case l_law_draw => k_is)
    (case co_law_draw => k_is)
    (case k_law_draw => k_is)
    (case a_law_names => k_is)
    (case l_law_names => k_is)
    (case co_law_names => k_is)
    (case k_law_names => k_is)
    (case a_law_shuffled => k_is)
    (case l_law_shuffled => k_is)
    (case co_law_shuffled => k_is)
    (case k_law_shuffled => k_is)
    (case a_law_odd => k_is)
    (case l_law_odd => k_is)
    (case co_law_odd => k_is)
    (case k_law_odd => k_is)
    (case a_law_is_name => k_is)
    (case l_law_is_name => k_is)
    (case co_law_is_name => k_is)
    (case k_law_is_name => k_is)
    (case a_law_is_right => k_is)
    (case l_law_is_right => k_is)
    (case co_law_is_right => k_is)
    (case k_law_is_right => k_is)
    (case a_law_drawn => k_is)
    (case l_law_drawn => k_is)
    (case co_law_drawn => k_is)
    (case k_law_drawn => k_is)
    (case a_law_spoilt => k_is)
    (case l_law_spoilt => k_is)
    (case co_law_spoilt => k_is)
    (case k_law_spoilt => k_is)
    (case a_law_call => k_is)
    (case l_law_call => k_is)
    (case co_law_call => k_is)
    (case k_law_call => k_is)
    (case a_law_told => k_is)
    (case l_law_told => k_is)
    (case co_law_told => k_is)
    (case k_law_told => k_is)
    (case a_law_links_right => k_is)
    (case l_law_links_right => k_is)
    (case co_law_links_right => k_is)
    (case k_law_links_right => k_is)
    (case a_law_value_right => k_is)
    (case l_law_value_right => k_is)
    (case co_law_value_right => k_is)
    (case k_law_value_right => k_is)
    (case a_law_right => k_is)
    (case l_law_right => k_is)
    (case co_law_right => k_is)
    (case k_law_right => k_is)
    (case a_law => k_is)
    (case l_law => k_is)
    (case co_law => k_is)
    (case k_law => k_is)
    (case v_LETTERS => k_is)
    (case v_LONGEST_NAME => k_is)
    (case v_SHORTEST_PATH => k_is)
    (case z_len => k_is)
    (case z_range => k_is)
    (case z_abs => k_is)
    (case z_max => k_is)
    (case z_min => k_is)
    (case z_divmod => k_is)
    (case z_isinstance => k_is)
    (case z_str => k_is)
    (case z_int => k_is)
    (case z_bool => k_is)
    (case z_tuple => k_is)
    (case z_list => k_is)
    (case z_set => k_is)
    (case z_dict => k_is)
    (case z_all => k_is)
    (case z_any => k_is)
    (case z_repr => k_is)
    (case z_sorted => k_is)
    (case z_enumerate => k_is)
    (case z_zip => k_is)
    (case e_InvalidRelink => k_is)
    (case S_InvalidRelink =>
      refine' My.raw_InvalidRelink ?ii ?ov ?sa ?ga ?gg ?ca ?ex ?ob ?hd ?kp ?ty ?ini ?tf ?li ?ci ?ki ?n0
      (case ii => kx_is)
      (case ov => kx_is)
      (case sa => k_is)
      (case ga => k_is)
      (case gg => k_is)
      (case ca => k_is)
      (case ex => k_is)
      (case ob => k_is)
      (case hd => k_is)
      (case kp => k_is)
      (case ty => k_is)
      (case ini => k_is)
      (case tf => k_is)
      (case li => k_is)
      (case ci => k_is)
      (case ki => k_is)
      (case n0 => k_is))
    (case e_UnknownHost => k_is)
    (case S_UnknownHost =>
      refine' My.raw_UnknownHost ?ii ?ov ?sa ?ga ?gg ?ca ?ex ?ob ?hd ?kp ?ty ?ini ?tf ?li ?ci ?ki ?n0
      (case ii => kx_is)
      (case ov => kx_is)
      (case sa => k_is)
      (case ga => k_is)
      (case gg => k_is)
      (case ca => k_is)
      (case ex => k_is)
      (case ob => k_is)
      (case hd => k_is)
      (case kp => k_is)
      (case ty => k_is)
      (case ini => k_is)
      (case tf => k_is)
      (case li => k_is)
      (case ci => k_is)
      (case ki => k_is)
      (case n0 => k_is))
    (case e_R => k_is)
    (case z_LE => k_is)
    (case z_VE => k_is)
    (case cg => k_is)
    (case ct => k_is)
    (case cl_R => k_is)
    (case tP_R => k_is)
    (case bP_C => k_is)
    (case iP_C => k_is)
    (case tP_C => k_is)
    (case bP_U => k_is)
    (case iP_U => k_is)
    (case tP_U => k_is)
    (case s_CC => k_is)
    (case s_UC => k_is)
    (case s_UU => k_is)
    (case s_CR => k_is)
    (case ne_CR => decide)
    (case s_UR => k_is)
    (case ne_UR => decide)
    (case s_CV => k_is)
    (case s_UL => k_is)
    (case f_C => k_is)
    (case f_U => k_is)

