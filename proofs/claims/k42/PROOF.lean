import PyProof.Rows.All
import Wide.All
import OpenK.AllK
import Wide.FinOn
import HandS.ForMost
import HandS.IsInst
import HandS.Walk
import KE.KExcPX
import KE.KExcInit
import KE.KExcIs
import HandS.ExcInit
import PyProof.ReprLen
import HandS.ForExc
import HandS.ExcField
import HandS.TryMany
import HandS.CallSlots
import KE.KTryMore
import HandS.Strs
import HandS.TupAny
import PyProof.ReprHeadsEmpty
import HandS.Style
import HandS.SetFor
import PyProof.EqKinds
import PyProof.FactsAll.dict_1
import PyProof.FactsAll.subtypes_4
import PyProof.FactsAll.subtypes_3
import PyProof.FactsAll.str_1
import HandS.FStr
import HandS.DictComp
import HandS.SortRule
import HandS.OwnEq
import HandS.ExcOwn
import HandS.Defaults
import HandS.WideBits
import HandS.DeepEq
import HandS.CallLocal
import HandS.WrittenGet
import HandS.RaiseMore
import PyProof.ReprText
import HandS.Star
import HandS.MakeKwOnly
import KE.KExcLine
import PySem.Challenge.RW_relinktree_k42_asks_and_refusals
set_option Elab.async false
set_option linter.all false
set_option maxRecDepth 100000
set_option maxHeartbeats 4000000
/-! Defs whose promise needs to know that no repr is under way: the layer's def, call and end once more with that premise. -/
namespace Gy
open PySem PySem.Spec PyProof.Rows L2

/-- repr of data at an address -/
theorem repr_dat {X : Cx} (hg : X.A.guards = some []) (hu : X.A.units + 70 < cLine) :
    CallR X (.builtin "repr") (fun xs H Q => ∃ a d, xs = [.ref a] ∧ Dp X.K H (.ref a) d ∧ d.showable = true ∧ d.hasDict = false ∧ d.depth ≤ 60 ∧
      d.shown.length ≤ sizeLine ∧ Q (.str d.shown) H) := by
  intro pins s σ H xs us Q I r h
  obtain ⟨a, d, rfl, hd, h1, h2, h3, h4, q⟩ := h
  obtain ⟨u, rfl, ru⟩ := vals1 r
  obtain ⟨as, rd⟩ := Dp.reads I d _ u hd ru
  cases ru
  refine repr_of_reads' rd h1 (fun z => ?_) hg (by omega) (fun _ _ e => e) (fun h' u tk hk => ?_) h4
  · rw [h2] at z
    cases z
  · exact ⟨.str _, H, I.kept hk, ⟨u, rfl⟩, q⟩

/-- a def's promise, where no repr is under way -/
structure FnG (P : Program) (w : World) (K : PySem.W.Frag) (mg : Str → Option Value) (base : Heap)
    (CX : CXT) (k : Nat) (f : Addr) (fd : FuncData) (ps : List Str) (sp : Sp) : Prop where
  ln : ∀ {vs H Q E}, sp vs H Q E → vs.length = ps.length
  go : ∀ {A outer s H args us vs Q E}, A.guards = some [] → Room k A → Env0 P w K mg base A outer s H →
    BindsTo s fd args (ps.zip us) → Vals vs us → sp vs H Q E → codeAny (model P w) A (.call (.ref f) args) (CR CX outer P w H s Q E) s

section
variable {P : Program} {w : World} {K : PySem.W.Frag} {mg : Str → Option Value} {base : Heap} {CX : CXT} {k : Nat} {f : Addr} {fd : FuncData} {ps N : List Str} {sp : Sp}
theorem FnG.up {j : Nat} (F : FnG P w K mg base CX j f fd ps sp) (h : j ≤ k) : FnG P w K mg base CX k f fd ps sp :=
  ⟨F.ln, fun g hr => F.go g (hr.mono h)⟩
theorem FnG.of (F : FnOk P w K mg base CX k f fd ps sp) : FnG P w K mg base CX k f fd ps sp :=
  ⟨fun h => F.len _ _ _ _ h, fun _ hr e b v h => F.run _ _ _ _ _ _ _ _ _ hr e b v h⟩

theorem fun_g {x qual : Str} {st : Stmt} (F : Fun K x qual st f fd) (S : FnScope N ps (defScope st)) (ln : ∀ {vs H Q E}, sp vs H Q E → vs.length = ps.length)
    (bd : ∀ (cdv : Value) (A : Around) (outer : List Env) (s : Shared) (H : Hp) (vs : List V) (Q : VK) (E : XK), A.guards = some [] →
      Room k (A.deeper (envOfC qual (defScope st) s.heap.objs.size f cdv)) → sp vs H Q E →
      ∃ t, PSs (cxOf CX P w K mg base N qual (defScope st) f cdv A outer s H E) (defBody st) t ∧
        t { nx := fun _ H' => Q .non H', rt := Q } (start N vs) H) :
    FnG P w K mg base CX (k + 1) f fd ps sp := by
  obtain ⟨oc, od, kV, doc, pm, an, cdv, ct, osl, rfl, lk, hcd⟩ := F.ex
  refine ⟨ln, ?_⟩
  intro A outer s H args us vs Q E g hr e0 hb rl hsp
  have stay : ∀ b o, base.get? b = some o → s.heap.get? b = some o := fun b o e => (e0.bs b o e).1
  have kin := e0.mod.kin.keeps stay
  have nol := e0.mod.nolimit.keeps stay
  refine codeAny_call_function hr.depth (kin _ _ lk) rfl S.co S.gen rfl (PySem.W.codeRec_of kin hcd) (hb _ _ _ _ ?_)
  refine wpAny_newFunctionEnv_cells S.kind ?_ ?_
  · rintro ⟨n, v⟩ hy
    refine (S.par n (List.of_mem_zip hy).1).imp id fun q => ⟨q, ?_⟩
    exact PySem.W.cellsFrom_some _ _ _ (.inl q)
  · rintro env rfl s1 x
    refine ⟨nol.keeps x.toInCall.keep, codeAny_func ?_⟩
    obtain ⟨t, ht, hq⟩ := bd cdv A outer s H vs Q E g (hr.deeper _) hsp
    have I := inv_start (CX := CX) (E := E) (outer := outer) S hr.hd e0 (ln hsp) rl x
    refine wpAny_mono (ht.run [] s1 (start N vs) H _ I hq) ?_ (fun _ _ z => z)
    rintro (_ | _ | _ | u) s' z
    all_goals first
      | (obtain ⟨σ', H', J, q⟩ := z
         exact ⟨V.non, H', J.os, J.bare, J.base, J.hok, rfl, q⟩)
      | (obtain ⟨_, _, _, q⟩ := z
         exact q.elim)
      | (obtain ⟨v, σ', H', J, rv, q⟩ := z
         exact ⟨v, H', J.os, J.bare, J.base, J.hok, rv, q⟩)
end
end Gy

namespace Gy
open PySem PySem.Spec PyProof.Rows L2

/-- the readings of the two calls below -/
def tG (sp : Sp) (E : XK) (t : TA) : TE := fun σ H Q => t σ H fun vs H1 => sp vs H1 Q E
def tKw0 (sp : Sp) (gV : List V → List V → List V) (E : XK) (tk : TA) : TE := fun σ H Q => tk σ H fun zs H1 => sp (gV [] zs) H1 Q E
section
variable {X : Cx} {CX : CXT} {k : Nat} {f : Addr} {fd : FuncData} {ps ks : List Str} {sp : Sp} {E : XK} {x : Str} {p pos : Pos} {e : Expr} {es : List Expr} {kws : List Keyword} {t tk : TA}
variable {g : List Value → List Value → List Value} {gV : List V → List V → List V}
/-- f(e, ..) of a def that wants to know of repr -/
theorem pe_callG (F : FnG X.prog X.w X.K X.mg X.base CX k f fd ps sp) (gd : X.A.guards = some []) (hr : Room k X.A) (hg : Gl X x)
    (hm : X.mg x = some (.ref f)) (hk : PySem.W.keepIn X.K (.ref f) = true) (hb : Binds X.K fd ps []) (hx : Passes CX X E) (ha : PA X (e :: es) t)
    (hdb : (x == ("__debug__" : Str)) = false := by decide) (he : starEach (e :: es) X.env = (false, eval e X.env) :: starEach es X.env := by rfl)
    (hpl : (backTo pos (starEach es X.env)).any (·.1) = false := by rfl) :
    PE X (.Call (.Name x p) (e :: es) [] pos) (tG sp E t) := by
  constructor
  intro pins s σ H Q I h
  refine wpAny_Call_Name_kw (ld_glob I hg hm ?_ hdb)
  refine PySem.W.callWith_K (h₀ := X.base) I.ok.mod.kin hk (thn (ha.run pos pins s σ H _ I h) ?_) he hpl
  rintro us s1 ⟨vs, H1, I1, r, q⟩
  refine ⟨I1.kIn, wpAny_call (codeAny_mono (F.go (args := ⟨us, []⟩) gd hr I1.env0 ?_ r q) ?_)⟩
  · have b := hb s1 us I1.kIn (by rw [List.append_nil, ← r.length]; exact F.ln q)
    rwa [List.append_nil] at b
  · rintro (er | (_ | _ | _ | u)) s' z
    · exact hx pins σ H1 s1 er s' I1 z
    · exact z.elim
    · exact z.elim
    · exact z.elim
    · exact I1.after z
/-- f(k = v, ..), nothing by position -/
theorem pe_kw0 (F : FnOk X.prog X.w X.K X.mg X.base CX k f fd ps sp) (hr : Room k X.A) (hg : Gl X x) (hm : X.mg x = some (.ref f))
    (hk : PySem.W.keepIn X.K (.ref f) = true) (hb : KBinds X.K fd ps ks g gV) (hx : Passes CX X E) (hkw : PK X kws tk)
    (hall : (backToKw pos (keywordEach kws X.env)).all (·.1.isSome) = true := by rfl) (hks : (backToKw pos (keywordEach kws X.env)).filterMap (·.1) = ks := by rfl)
    (hdb : (x == ("__debug__" : Str)) = false := by decide)
    (hpl : ((backTo pos (starEach [] X.env)).any (·.1) || (backToKw pos (keywordEach kws X.env)).any (·.1.isNone)) = false := by rfl) :
    PE X (.Call (.Name x p) [] kws pos) (tKw0 sp gV E tk) := by
  constructor
  intro pins s σ H Q I h
  refine wpAny_Call_Name_kw (ld_glob I hg hm ?_ hdb)
  refine PySem.W.callWith_KW0 (h₀ := X.base) I.ok.mod.kin hk hall (thn (hkw.run pos pins s σ H _ I h) ?_) hpl
  rintro ws s2 ⟨zs, H2, I2, rz, q2⟩
  rw [hks]
  exact ⟨I2.kIn, run_fnk (us := []) F hr hb hx I2 .nil rz q2⟩
end

/-- the law's call, its def a FnG -/
theorem end_g {P : Program} {w : World} {K : PySem.W.Frag} {mg mb : Str → Option Value} {CX : CXT} {k : Nat} {fa a : Addr} {fd : FuncData} {x : Str} {sp : Sp}
    {s : Shared} {vs : List Value} {ns : List Int} (kin : K.In s.heap) (hns : s.heap.Ns mainGlobals mg) (hb : s.heap.Ns builtinsNs mb)
    (hbb : ∀ x : Str, x ≠ "__name__" → mb x = bootBuiltins x) (nol : s.heap.NoLimit) (hg : s.gens = #[])
    (ha : s.heap.get? a = some { cls := .type "list", data := .seq vs.toArray }) (hi : IntsAre vs ns) (hl : ns.length ≤ sizeLine) (hr : Room k callerA)
    (F : ∀ base : Heap, K.In base → base.Ns mainGlobals mg → FnG P w K mg base CX k fa fd [x] sp)
    (bnd : ∀ (s : Shared) (u : Value), BindsTo s fd ⟨[u], []⟩ [(x, u)])
    (hsp : ∀ H : Hp, Only H → SqL K H a (ns.map V.int) → sp [.ref a] H (fun v _ => v = .bl true) fun _ _ _ => False)
    (hCX : ∀ H e s', CX [] H s (fun _ _ _ => False) e s' → False) :
    codeAny (model P w) callerA (.call (.ref fa) ⟨[.ref a], []⟩)
      (fun r s' => r = .ok (.ret (.bool true)) ∧ OldK s.heap s'.heap ∧ s'.os = s.os ∧ AllBare s'.gens) s := by
  have main : ∀ H : Hp, Only H → SqL K H a (ns.map V.int) → HOk P w H s.heap → (∀ b, H b ≠ none → b = a) → (H a ≠ none → K.lookup a = none) →
      codeAny (model P w) callerA (.call (.ref fa) ⟨[.ref a], []⟩)
        (fun r s' => r = .ok (.ret (.bool true)) ∧ OldK s.heap s'.heap ∧ s'.os = s.os ∧ AllBare s'.gens) s := by
    intro H only seq hok alone notK
    have noD : ∀ {b o es ep}, s.heap.get? b = some o → o.data = .dict es ep → H b = none := by
      intro b o es ep e d
      cases q : H b with
      | none => rfl
      | some u =>
        obtain rfl := alone b (by rw [q]; exact fun z => nomatch z)
        rw [ha] at e
        cases e
        exact nomatch d
    have nsB : ∀ {b m}, s.heap.Ns b m → (hidT s.heap H).Ns b m := by
      rintro b m ⟨o, es, ep, e, d, r⟩
      exact ⟨o, es, ep, hidT_get e (noD e d), d, r⟩
    have kB : K.In (hidT s.heap H) := by
      intro b o e
      refine hidT_get (kin b o e) ?_
      cases q : H b with
      | none => rfl
      | some u =>
        obtain rfl := alone b (by rw [q]; exact fun z => nomatch z)
        rw [notK (by rw [q]; exact fun z => nomatch z)] at e
        cases e
    obtain ⟨mc, l1, l2⟩ := nol
    have e0 : Env0 P w K mg (hidT s.heap H) callerA [] s H := by
      refine ⟨rfl, ⟨kB, nsB hns, ⟨mb, nsB hb, hbb⟩, ⟨mc, nsB l1, l2⟩⟩, fun b o e => of_hidT e, Nat.le_of_eq (hidT_size _ _), trivial, ?_, hok, .of_eq hg⟩
      intro b z
      exact nomatch (show b ∈ ([] : List Addr) from z)
    have run := (F _ kB (nsB hns)).go (A := callerA) (args := ⟨[.ref a], []⟩) (us := [.ref a]) (vs := [V.ref a]) rfl hr e0 (bnd s (.ref a)) (.cons rfl .nil) (hsp H only seq)
    refine codeAny_mono run ?_
    rintro (er | (_ | _ | _ | u)) s' z
    · exact (hCX H er s' z).elim
    · exact z.elim
    · exact z.elim
    · exact z.elim
    · obtain ⟨v, H', os, bare, un, hok', rv, q⟩ := z
      cases (show v = .bl true from q)
      cases (show u = Value.bool true from rv)
      refine ⟨rfl, OldK.of_keep fun b o e => ?_, os, bare⟩
      rcases only b with n | ⟨ob, xs, y⟩
      · exact un.keep b o e n (fun z => nomatch (show b ∈ ([] : List Addr) from z)) (fun z => nomatch z)
      · obtain ⟨e1, _⟩ := hok b _ y
        obtain ⟨e2, _⟩ := hok' b _ (un.frzs b ob _ y)
        rw [e] at e1
        cases e1
        exact e2
  have rv := vals_ints hi
  cases hk : K.lookup a with
  | some o =>
    have e := kin a o hk
    rw [ha] at e
    cases e
    refine main (fun _ => none) (fun _ => .inl rfl) (.inr ⟨_, vs.toArray, _, hk, rfl, rfl, rfl, ?_, rv⟩) (fun b u z => nomatch z) (fun b z => absurd rfl z) (fun z => absurd rfl z)
    rw [List.size_toArray, hi.length]
    exact hl
  | none =>
    let ob : Obj := { cls := .type "list", data := .seq vs.toArray }
    refine main (fun b => if b = a then some (.frz ob (.lst (ns.map V.int))) else none) (fun b => ?_) (.inl (.inr ⟨ob, if_pos rfl⟩)) (fun b u z => ?_) (fun b z => ?_) (fun _ => hk)
    · by_cases q : b = a
      · exact .inr ⟨_, _, if_pos q⟩
      · exact .inl (if_neg q)
    · by_cases q : b = a
      · have y := (if_pos q).symm.trans z
        cases y
        subst q
        exact ⟨ha, by rw [List.length_map]; exact hl, vs, _, rv, ha⟩
      · have y := (if_neg q).symm.trans z
        cases y
    · by_cases q : b = a
      · exact q
      · exact absurd (if_neg q) z

/-- what k_head leaves, from a law that is a FnG -/
theorem walk_g {l : PySem.W.OpenLaw} {n k : Nat} {q : Program} {loose : List Str} {XP : (Str → Option Value) → Heap → Prop} {YP : World → Heap → Prop} {d : DefRec}
    {K : Params → PySem.W.Frag} {sp : PySem.W.Frag → Sp} {x : Str} (hn : l.most = some n) (hn2 : n ≤ sizeLine) (hdf : d.params.defaults = []) (hr : Room k callerA)
    (hY : ∀ (w : World) (h : Heap), YP w h → (K w.params).In h)
    (F : ∀ (w : World) (mg : Str → Option Value) (fa : Addr) (h : Heap), (K w.params).In h → h.Ns mainGlobals mg → mg d.name = some (.ref fa) →
      ∃ fd : FuncData, (∀ (s : Shared) (u : Value), BindsTo s fd ⟨[u], []⟩ [(x, u)]) ∧
        ∀ base : Heap, (K w.params).In base → base.Ns mainGlobals mg → FnG l.prog w (K w.params) mg base CX0 k fa fd [x] (sp (K w.params)))
    (hsp : ∀ (K : PySem.W.Frag) (H : Hp) (a : Addr) (ns : List Int), ns.length ≤ n → SqL K H a (ns.map V.int) → sp K [.ref a] H (fun v _ => v = .bl true) fun _ _ _ => False) :
    PySem.W.WalkO q loose XP YP l.row.toRowW d [] (fun f vs => PySem.call f vs) := by
  refine Att.attach_call hn hdf ?_
  intro w s₀ s₁ mg mb fa o pm cd doc a vs ns G Y ho hd hcd hmg hobj hints hlen hg
  have kin := hY w _ Y
  obtain ⟨fd, hb, hF⟩ := F w mg fa _ kin G.T.g hmg
  exact end_g kin G.T.g G.T.b G.T.builtins G.T.nolimit hg hobj hints (Nat.le_trans hlen hn2) hr hF hb (fun H _ hS => hsp _ H a ns hlen hS) (fun _ _ _ z => z)
end Gy

/-! An own exception class called with keywords: BaseException.__new__ takes them and forgets them, the own __init__ gets them. -/
namespace PySem
namespace Xg
open Builtin Builtin.ObjectAttr
section
variable {M : Model} {A : Around} {E : Value → Shared → Prop} {h : Heap} {g : Array GenState} {d : Drawn} {t : Nat} {os : OsState}
variable {nm q : Str} {C N : Addr} {bs bm bmB : List Value} {hdct : Bool} {sn : List Str} {sub : List Value} {ab : Bool} {col : Option Bool} {dd : Option Addr} {k0 k1 k2 k3 k5 : Option Value} {B newId initId : String}
theorem kw_check (F : ExcBaseFacts B newId initId bmB) (hT : ∀ X : String, bm.contains (.type X) = bmB.contains (.type X)) {us : List Value} {kw : List (Str × Value)} {Q : Unit → Shared → Prop}
    (cl : h.get? C = some (excClassObj nm q C N bs bm hdct sn sub ab col dd k0 k1 k2 k3 k5 newId)) (z : Q () ⟨h, g, d, t, os⟩) :
    wpAny M A (checkBuiltinCall newId ⟨.ref C :: us, kw⟩) Q E ⟨h, g, d, t, os⟩ := by
  have has : (Value.ref C :: bm).contains (.type B) = true := by
    rw [List.contains_cons, hT, F.hasB, Bool.or_true]
  have star := F.noStar
  simp only [checkBuiltinCall, F.newKind, F.newSplit, F.newRow]
  repeat (first
    | refine wpAny_loadPart_at cl ?_
    | (refine wpAny_isSubtype_exc cl ?_; rw [has])
    | refine wpAny_staticBase_exc cl ?_
    | refine wpAny_madeBy_exc cl ?_
    | simp only [bne_self_eq_false, Bool.false_eq_true, if_false]
    | wp_step)
  exact z
end
section
variable {prog : Program} {w : World} {A : Around} {E : Value → Shared → Prop} {R : Result → Shared → Prop} {h : Heap} {g : Array GenState} {d : Drawn} {t : Nat} {os : OsState}
variable {nm q : Str} {C N : Addr} {bs bm bmB : List Value} {hdct : Bool} {sn : List Str} {sub : List Value} {ab : Bool} {col : Option Bool} {dd : Option Addr} {k0 k1 k2 k3 k5 : Option Value} {B newId initId : String}
theorem kw_new (F : ExcBaseFacts B newId initId bmB) (hT : ∀ X : String, bm.contains (.type X) = bmB.contains (.type X)) {us : List Value} {kw : List (Str × Value)}
    (cl : h.get? C = some (excClassObj nm q C N bs bm hdct sn sub ab col dd k0 k1 k2 k3 k5 newId))
    (z : R (.ok (.ret (.ref (h.objs.size + 1)))) ⟨(h.push (W.kdv_tup us)).push (PX.excO C h.objs.size), g, d, t, os⟩) (len : us.length ≤ sizeLine) :
    codeAny (model prog w) A (.builtin newId ⟨.ref C :: us, kw⟩) R ⟨h, g, d, t, os⟩ := by
  have ends := F.ends
  have hB : (Value.ref C :: bm).contains (.type B) = true := by
    rw [List.contains_cons, hT, F.hasB, Bool.or_true]
  have hA : (Value.ref C :: bm).contains (.type "AttributeError") = false := by
    rw [List.contains_cons, hT, F.noAttr]
    rfl
  have hN : (Value.ref C :: bm).contains (.type "NameError") = false := by
    rw [List.contains_cons, hT, F.noName]
    rfl
  refine codeAny_builtinAt F.entry ?_
  unfold Builtin.«BaseException.__new__»
  refine wpAt_bind ?_
  show wpAt _ _ _ (stack >>= _) _ _ _
  refine wpAt_bind (wpAt_stack fun p below => wpAt_of_wpAny ?_)
  wp_walk
  refine wpAt_of_wpAny ?_
  rw [F.owner]
  repeat (first
    | with_reducible refine wpAny_madeHere_exc F.canon cl ?_
    | with_reducible refine wpAny_loadPart_at cl ?_
    | (with_reducible refine wpAny_isSubtype_exc cl ?_; first | rw [hB] | rw [hA] | rw [hN])
    | wp_step)
  show R _ _
  rw [Heap.size_push]
  exact z
theorem kw_type (F : ExcBaseFacts B newId initId bmB) (hT : ∀ X : String, bm.contains (.type X) = bmB.contains (.type X)) {us : List Value} {kw : List (Str × Value)} {fI : Addr} {Q : Fin → Shared → Prop}
    (cl : h.get? C = some (excClassObj nm q C N bs bm hdct sn sub ab col dd k0 k1 k2 k3 k5 newId))
    (hi : W.Looks (model prog w) h (typeLookup (.ref C) "__init__") (some (.ref fI))) (hb : ∀ self, W.Looks (model prog w) h (bindSpecial (.ref fI) self) (.ref fI, [self]))
    (len : us.length ≤ sizeLine)
    (z : codeAny (model prog w) A (.call (.ref fI) ⟨.ref (h.objs.size + 1) :: us, kw⟩)
      (fun r s' => match r with | .ok (.ret v) => v = .none ∧ Q (.done (.ret (.ref (h.objs.size + 1)))) s' | .ok _ => False | .error e => E e s')
      ⟨(h.push (W.kdv_tup us)).push (PX.excO C h.objs.size), g, d, t, os⟩) :
    wpAny (model prog w) A (Builtin.«type.__call__» ⟨.ref C :: us, kw⟩) Q E ⟨h, g, d, t, os⟩ := by
  repeat (first
    | with_reducible refine wpAny_loadPart_at cl ?_
    | with_reducible refine wpAny_madeBy_exc cl ?_
    | wp_step)
  refine codeAny_call_builtin_code (Code.quiet_builtin _ F.quiet) (kw_check F hT cl ?_)
  refine kw_new F hT cl ?_ len
  show wpAny _ _ _ _ _ _
  have keep : ∀ b o, h.get? b = some o → ((h.push (W.kdv_tup us)).push (PX.excO C h.objs.size)).get? b = some o := fun b o e =>
    Heap.get?_push_of_some _ (Heap.get?_push_of_some _ e)
  have cl1 := keep _ _ cl
  have new : ((h.push (W.kdv_tup us)).push (PX.excO C h.objs.size)).get? (h.objs.size + 1) = some (PX.excO C h.objs.size) := by heap_get
  have self : (Value.ref C :: bm).contains (.ref C) = true := by simp
  have i1 := hi.keeps keep
  have b1 := (hb (.ref (h.objs.size + 1))).keeps keep
  unfold isInstance
  repeat (first
    | with_reducible refine wpAny_loadPart_at new ?_
    | (with_reducible refine wpAny_isSubtype_exc cl1 ?_; rw [self])
    | wp_step)
  show wpAny _ _ (typeLookup (.ref C) _) _ _ _
  refine i1.at ?_
  refine wpAny_holding (wpAny_bind (b1.at ?_))
  refine wpAny_bind (wpAny_call (codeAny_mono z fun r s' y => ?_))
  rcases r with e | (v | _ | _ | _) <;> first | exact y | exact y.elim | skip
  obtain ⟨rfl, y⟩ := y
  first
    | exact wpAny_pure (wpAny_pure y)
    | (wp_walk; exact y)
theorem kw_call (F : ExcBaseFacts B newId initId bmB) (hT : ∀ X : String, bm.contains (.type X) = bmB.contains (.type X)) {us : List Value} {kw : List (Str × Value)} {fI : Addr}
    (cl : h.get? C = some (excClassObj nm q C N bs bm hdct sn sub ab col dd k0 k1 k2 k3 k5 newId))
    (hi : W.Looks (model prog w) h (typeLookup (.ref C) "__init__") (some (.ref fI))) (hb : ∀ self, W.Looks (model prog w) h (bindSpecial (.ref fI) self) (.ref fI, [self]))
    (len : us.length ≤ sizeLine)
    (z : codeAny (model prog w) (A.under (.builtin "type.__call__" ⟨.ref C :: us, kw⟩)) (.call (.ref fI) ⟨.ref (h.objs.size + 1) :: us, kw⟩) (W.InitBack (h.objs.size + 1) R)
      ⟨(h.push (W.kdv_tup us)).push (PX.excO C h.objs.size), g, d, t, os⟩) :
    codeAny (model prog w) A (.call (.ref C) ⟨us, kw⟩) R ⟨h, g, d, t, os⟩ := by
  have f1 := tc_lookup
  have f2 := tc_bind (.ref C)
  have ty : (⟨h, g, d, t, os⟩ : Shared).TypeIs (.ref C) "type" := ⟨_, cl, rfl⟩
  refine codeAny_of_tree ?_
  show wpAny _ _ (callAny (.ref C) _) _ _ _
  repeat (any_goals (first | assumption | with_reducible refine wpAny_loadPart_at cl ?_ | wp_step))
  refine ⟨rfl, ?_⟩
  refine codeAny_call_builtin_at (Code.quiet_builtin _ (by decide +kernel)) entry_typeCall (wpAny_check_type_call_sub cl (kw_type F hT cl hi hb len ?_))
  refine codeAny_mono z fun r s' y => ?_
  rcases r with e | (v | _ | _ | _) <;> exact y
end
end Xg
end PySem

/-! Own exception classes over any built-in base, made as values: by position, by name; their fields stored and read; isinstance. -/
namespace PySem
namespace Xg
open PySem.W PySem.Calls PyProof.Rows Builtin Builtin.ObjectAttr
section
variable {prog : Program} {w : World} {A : Around} {R : Result → Shared → Prop} {hp : Heap} {g : Array GenState} {d : Drawn} {t : Nat} {os : OsState} {K : Frag} {B : String} {bmB : List Value}
/-- the first field: the dict is made -/
theorem osa_first (SF : StoreFacts B bmB "object.__setattr__" "object") {name : Str} {tk : Tok} {v : Value} {x C t1 : Addr} (kin : K.In hp)
    (at_ : hp.get? x = some (PX.excO C t1)) (ov : excOver K C bmB = true) (no : takerIn K C name = some none) (hh : hasDictIn K C = true)
    (z : ∀ h' tk' dx, (∀ b o, b ≠ x → hp.get? b = some o → h'.get? b = some o) → hp.objs.size ≤ dx → dx ≠ x →
      h'.get? x = some { PX.excO C t1 with dict := some dx } → h'.Ns1 dx (fun y => if y = name then some v else none) → R (.ok (.ret .none)) ⟨h', g, d, tk', os⟩) :
    codeAny (model prog w) A (.call (.builtin "object.__setattr__") ⟨[.ref x, .str name tk, v], []⟩) R ⟨hp, g, d, t, os⟩ := by
  obtain ⟨cd, hc, hd'⟩ := any_some hh
  have lt := Heap.lt_size at_
  refine osa_openX (od := none) (s := ⟨hp, g, d, t, os⟩) SF kin ⟨at_, rfl, rfl, trivial⟩ ov no fun b => ?_
  refine wpAny_bind (wpAny_pure (wpAny_bind (instanceDict_exc (s := ⟨hp, g, d, t, os⟩) (c2 := .none) at_ (looks_clsIn kin hc) hd' ?_)))
  show wpAny _ _ (storeInDict hp.objs.size (.str name tk) name v) _ _ _
  refine HandSPX.store_in_new ?_ fun h' tk' hn hs => ?_
  · exact ⟨_, #[], _, (Heap.get?_update_ne _ _ _ _ (Nat.ne_of_gt lt)).trans (Heap.get?_push_at rfl rfl), rfl, fun e he => absurd he (by simp), fun _ => rfl⟩
  · refine z h' tk' hp.objs.size (fun b o nb e => ?_) (Nat.le_refl _) (Nat.ne_of_gt lt) ?_ hn
    · rw [hs.2 b (Nat.ne_of_lt (Heap.lt_size e)), Heap.get?_update_ne _ _ _ _ nb]
      exact Heap.get?_push_of_some _ e
    · rw [hs.2 x (Nat.ne_of_lt lt)]
      exact Heap.get?_update_self _ (Heap.get?_push_of_some _ at_) rfl
/-- a further field -/
theorem osa_next (SF : StoreFacts B bmB "object.__setattr__" "object") {name : Str} {tk : Tok} {v : Value} {x C t1 dx : Addr} {m0 : Str → Option Value} {nl : List Str} (kin : K.In hp)
    (at_ : hp.get? x = some { PX.excO C t1 with dict := some dx }) (ns : hp.Ns1 dx m0) (wi : Within m0 nl) (few : nl.length ≤ 1000)
    (ov : excOver K C bmB = true) (no : takerIn K C name = some none) (hh : hasDictIn K C = true)
    (z : ∀ h' tk', (∀ b o, b ≠ dx → hp.get? b = some o → h'.get? b = some o) → h'.Ns1 dx (fun y => if y = name then some v else m0 y) → R (.ok (.ret .none)) ⟨h', g, d, tk', os⟩) :
    codeAny (model prog w) A (.call (.builtin "object.__setattr__") ⟨[.ref x, .str name tk, v], []⟩) R ⟨hp, g, d, t, os⟩ := by
  obtain ⟨cd, hc, hd'⟩ := any_some hh
  obtain ⟨oD, _, _, gD, _, _⟩ := ns.count wi
  refine osa_openX (od := some oD) (s := ⟨hp, g, d, t, os⟩) SF kin ⟨at_, rfl, rfl, gD⟩ ov no fun b => ?_
  refine wpAny_bind (wpAny_pure (wpAny_bind (wpAny_bind (wpAny_loadPart at_ (wpAny_bind ((looks_clsIn kin hc).here ?_))))))
  rw [hd']
  refine wpAny_pure (a := some dx) ?_
  exact OEX.store_in_old ns wi few fun h' tk' hn hs => z h' tk' (fun b o nb e => (hs.2 b nb).trans e) hn
end
end Xg
end PySem

namespace Xl
open PySem PySem.Spec PyProof.Rows L2 Gy
/-- what the written part says of an own exception class at C -/
structure XCl (K : PySem.W.Frag) (C : Addr) : Prop where
  base : ∃ B newId initId bmB, ExcBaseFacts B newId initId bmB ∧ StoreFacts B bmB "object.__setattr__" "object" ∧ PySem.W.excInitIn K C bmB newId = true ∧ PySem.W.excOver K C bmB = true
  sa : PySem.W.findIn K (.ref C) "__setattr__" = some (some (.builtin "object.__setattr__"))
  ga : PySem.W.findIn K (.ref C) "__getattribute__" = some (some (.builtin "BaseException.__getattribute__"))
  gg : PySem.W.findIn K (.ref C) "__getattr__" = some none
  ca : PySem.W.findIn K (.ref C) "__class__" = some (some (.builtin "object.__class__"))
  ex : PySem.W.subIn K (.ref C) (.type "BaseException") = some true
  ob : PySem.W.mroIn K C (.type "object") = some true
  hd : PySem.W.hasDictIn K C = true
  kp : PySem.W.keepIn K (.ref C) = true
/-- its __init__ stands at fI -/
structure XIn (K : PySem.W.Frag) (C fI : Addr) : Prop extends XCl K C where
  ini : PySem.W.findIn K (.ref C) "__init__" = some (some (.ref fI))
  tf : PySem.W.typeIn K (.ref fI) = some (.type "function")
section
variable {X : Cx} {pins : List (Addr × Obj)} {σ : L2.St} {H : Hp} {s : Shared} {a C dx : Addr} {f : Str} {y : V} {u : Value} {fs : List (Str × V)} {Q : Unit → Shared → Prop} {E : Value → Shared → Prop} {A : Around}
theorem set_new (T : XCl X.K C) (I : Inv X pins σ H s) (e : H a = some (exo a C none)) (no : PySem.W.findIn X.K (.ref C) f = some none) (ry : RelV y u)
    (z : ∀ dx s', H dx = none → dx ≠ a → Inv X pins σ (upd (upd H dx (exd dx [(f, y)])) a (exo a C (some dx))) s' → Q () s') :
    wpAny (model X.prog X.w) A (setAttr (.ref a) f u) Q E s := by
  obtain ⟨B, nI, iI, bmB, _, SF, _, ov⟩ := T.base
  obtain ⟨t1, at_⟩ := exo_at I.hok e
  obtain ⟨hp, g, d, t, os⟩ := s
  have tk : PySem.W.takerIn X.K C f = some none := by
    unfold PySem.W.takerIn
    rw [no]
    rfl
  refine PySem.W.set_plain I.kIn (od := none) ⟨at_, rfl, rfl, trivial⟩ T.sa ?_
  refine PySem.Xg.osa_first SF I.kIn at_ ov tk T.hd ?_
  intro h' tk' dx keep big ne atX ns
  have free : H dx = none := I.hok.fresh big
  have old : ∀ {b o}, hp.get? b = some o → b ≠ dx := fun q => Nat.ne_of_lt (Nat.lt_of_lt_of_le (Heap.lt_size q) big)
  have noA : ∀ {b}, H b = none → b ≠ a := fun {b} n y => by
    rw [y, e] at n
    cases n
  have other : ∀ {b o}, H b = some o → o ≠ exo a C none → upd (upd H dx (exd dx [(f, y)])) a (exo a C (some dx)) b = some o := by
    intro b o q ne'
    have nb : b ≠ a := fun y => by
      rw [y, e] at q
      exact ne' (Option.some.inj q).symm
    rw [upd_ne nb, upd_ne (ne_of_none q free)]
    exact q
  have U : Un X.fs [] H (upd (upd H dx (exd dx [(f, y)])) a (exo a C (some dx))) hp h' := by
    refine ⟨fun b o q n _ _ => keep b o (noA n) q, fun b o q n _ _ => ⟨o.slots, keep b o (noA n) q⟩, fun b o q n _ => ?_, fun b o q _ => ?_, fun b xs q => ?_, fun b o v q => ?_, fun b ps q => ⟨#[], ?_⟩⟩
    · rw [upd_ne (noA n), upd_ne (old q)]
      exact n
    · by_cases nb : b = a
      · exact ⟨_, by rw [nb]; exact atX⟩
      · exact ⟨o, keep b o nb q⟩
    · exact other q (fun y => exo_tup y.symm)
    · exact other q (fun y => exo_frz y.symm)
    · rw [other q (fun y => exo_tbl y.symm)]
      simp
  refine z dx _ free ne (I.un (t' := tk') U ?_)
  intro b o q
  by_cases nb : b = a
  · subst nb
    rw [upd_same] at q
    cases q
    exact exo_ok atX
  · rw [upd_ne nb] at q
    by_cases nd : b = dx
    · subst nd
      rw [upd_same] at q
      cases q
      exact exd_ok ns (relO_put (fs := []) ry fun _ => True.intro)
    · rw [upd_ne nd] at q
      refine (I.hok b o q).stay (fun c v hc y => keep c v ?_ y) (fun c hc => other hc (fun y => exo_own y.symm)) (fun c xs hc => other hc (fun y => exo_tup y.symm))
      rcases hc with hc | hc
      · rw [hc]
        exact nb
      · exact at_ne e hc exo_own
theorem set_more (T : XCl X.K C) (I : Inv X pins σ H s) (e : H a = some (exo a C (some dx))) (ed : H dx = some (exd dx fs)) (few : fs.length ≤ 900) (no : PySem.W.findIn X.K (.ref C) f = some none) (ry : RelV y u)
    (z : ∀ s', Inv X pins σ (upd H dx (exd dx ((f, y) :: fs))) s' → Q () s') : wpAny (model X.prog X.w) A (setAttr (.ref a) f u) Q E s := by
  obtain ⟨B, nI, iI, bmB, _, SF, _, ov⟩ := T.base
  obtain ⟨t1, at_⟩ := exo_at I.hok e
  obtain ⟨mA, ns, rel⟩ := exd_at I.hok ed
  have wi := within_of rel
  obtain ⟨hp, g, d, t, os⟩ := s
  obtain ⟨oD, _, _, gD, _, _⟩ := ns.count wi
  have tk : PySem.W.takerIn X.K C f = some none := by
    unfold PySem.W.takerIn
    rw [no]
    rfl
  refine PySem.W.set_plain I.kIn (od := some oD) ⟨at_, rfl, rfl, gD⟩ T.sa ?_
  refine PySem.Xg.osa_next SF I.kIn at_ ns wi (by rw [List.length_map]; omega) ov tk T.hd ?_
  intro h' tk' keep hn
  have there : ∃ o, h'.get? dx = some o := by
    obtain ⟨o, _, _, q, _⟩ := hn
    exact ⟨o, q⟩
  exact z _ (I.write (t' := tk') (x := dx) (e := dx) (o := exd dx ((f, y) :: fs)) (by rw [ed]; trivial) (.inl rfl) keep there (exd_ok hn (relO_put ry rel)))
end
/-! ### readings and rules -/
/-- self.f = e in such an __init__ -/
def tXs (K : PySem.W.Frag) (f : Str) (to te : TE) : TS := fun D σ H => te σ H fun y H1 => to σ H1 fun x H2 => ∃ a C : Addr, x = .ref a ∧ XCl K C ∧ PySem.W.findIn K (.ref C) f = some none ∧
  ((H2 a = some (exo a C none) ∧ ∀ dx, H2 dx = none → dx ≠ a → D.nx σ (upd (upd H2 dx (exd dx [(f, y)])) a (exo a C (some dx)))) ∨
    ∃ (dx : Addr) (fs : List (Str × V)), H2 a = some (exo a C (some dx)) ∧ H2 dx = some (exd dx fs) ∧ fs.length ≤ 900 ∧ D.nx σ (upd H2 dx (exd dx ((f, y) :: fs))))
/-- C(..): the object made, then __init__ -/
def tXm (C : Addr) (sp : Sp) (gV : List V → List V → List V) (t tk : TA) : TE := fun σ H Q => t σ H fun vs H0 => tk σ H0 fun zs H1 => vs.length ≤ 1000 ∧ ∀ a, H1 a = none →
  sp (.ref a :: gV vs zs) (upd H1 a (exo a C none)) (fun v H2 => v = .non ∧ Q (.ref a) H2) (fun _ _ _ => False)
section
variable {X : Cx} {o e : Expr} {es : List Expr} {kws : List Keyword} {to te : TE} {t tk : TA} {f : Str} {p p' pos : Pos}
theorem ps_xs (ho : PE X o to) (he : PE X e te) (hs : swapsWith e (some (.Attribute o f p')) pos.line X.env = pure false := by rfl) : PS X (.Assign [.Attribute o f p'] e pos) (tXs X.K f to te) := by
  constructor
  intro pins s σ H D I h
  refine plainObj_wpAny_Assign_Attribute (thn (he.run pins s σ H _ I h) ?_) hs
  rintro v s1 ⟨y, H1, I1, r1, q1⟩
  refine thn (ho.run pins s1 σ H1 _ I1 q1) ?_
  rintro u s2 ⟨x, H2, I2, r2, a, C, rfl, T, no, q⟩
  cases r2
  rcases q with ⟨ea, q⟩ | ⟨dx, fs, ea, ed, few, q⟩
  · exact set_new T I2 ea no r1 fun dx s' n ne J => ⟨σ, _, J, q dx n ne⟩
  · exact set_more T I2 ea ed few no r1 fun s' J => ⟨σ, _, J, q⟩
/-- how positional values and keywords come to __init__'s parameters -/
structure XB (K : PySem.W.Frag) (fd : FuncData) (ps ks : List Str) (g : List Value → List Value → List Value) (gV : List V → List V → List V) : Prop where
  to : ∀ (s : Shared) (b : Value) (us ws : List Value), K.In s.heap → (b :: g us ws).length = ps.length → BindsTo s fd ⟨b :: us, ks.zip ws⟩ (ps.zip (b :: g us ws))
  rel : ∀ {vs : List V} {us : List Value} {zs : List V} {ws : List Value}, Vals vs us → Vals zs ws → Vals (gV vs zs) (g us ws)
variable {CX : CXT} {C fI : Addr} {k : Nat} {fd : FuncData} {ps ks : List Str} {sp : Sp} {g : List Value → List Value → List Value} {gV : List V → List V → List V} {x : Str}
theorem run_x {pins : List (Addr × Obj)} {σ : L2.St} {H : Hp} {s : Shared} {Q : VK} {us ws : List Value} {vs zs : List V} (T : XIn X.K C fI) (F : FnOk X.prog X.w X.K X.mg X.base CX k fI fd ps sp) (hr : Room (k + 1) X.A)
    (hb : XB X.K fd ps ks g gV) (hx : Passes CX X (fun _ _ _ => False)) (I : Inv X pins σ H s) (r : Vals vs us) (rz : Vals zs ws) (len : vs.length ≤ 1000)
    (h : ∀ a, H a = none → sp (.ref a :: gV vs zs) (upd H a (exo a C none)) (fun v H2 => v = .non ∧ Q (.ref a) H2) (fun _ _ _ => False)) :
    wpAny (model X.prog X.w) X.A (call (.ref C) us (ks.zip ws)) (EP X pins σ Q) X.xe s := by
  obtain ⟨B, nI, iI, bmB, BF, _, ii, _⟩ := T.base
  obtain ⟨nm, N', qn, bs, bm, hdct, sn, sub, ab, col, dd, k0, k1, k2, k3, k5, cl, hT⟩ := PySem.W.excInit_of I.kIn ii
  obtain ⟨hp, g', dr, tk', os⟩ := s
  have big : hp.objs.size ≤ hp.objs.size + 1 := Nat.le_succ _
  have hq := h (hp.objs.size + 1) (I.hok.fresh big)
  have keep : ∀ b o, hp.get? b = some o → ((hp.push (PySem.W.kdv_tup us)).push (PySem.PX.excO C hp.objs.size)).get? b = some o := fun b o e =>
    Heap.get?_push_of_some _ (Heap.get?_push_of_some _ e)
  have new : ((hp.push (PySem.W.kdv_tup us)).push (PySem.PX.excO C hp.objs.size)).get? (hp.objs.size + 1) = some (PySem.PX.excO C hp.objs.size) := by heap_get
  have I2 := I.laid (t' := tk') (a := hp.objs.size + 1) (o := exo (hp.objs.size + 1) C none) keep big (exo_ok new)
  have r2 : Vals (V.ref (hp.objs.size + 1) :: gV vs zs) (Value.ref (hp.objs.size + 1) :: g us ws) := .cons rfl (hb.rel r rz)
  have bl := hb.to ⟨_, g', dr, tk', os⟩ (Value.ref (hp.objs.size + 1)) us ws I2.kIn (by rw [← r2.length]; exact F.len _ _ _ _ hq)
  refine wpAny_call (PySem.Xg.kw_call BF hT cl (PySem.W.looks_findIn I.kIn T.ini) (fun self => PySem.W.bind_fn I.kIn self T.tf) ?_ (codeAny_mono (F.run _ X.stack _ _ _ _ _ _ _ (hr.make C us (ks.zip ws)) (I2.env0.make C us (ks.zip ws)) bl r2 hq) ?_))
  · rw [← r.length, sizeLine_eq]
    omega
  · rintro (er | (_ | _ | _ | u)) s' z
    · exact hx pins σ _ _ er s' I2 z
    · exact z.elim
    · exact z.elim
    · exact z.elim
    · obtain ⟨v, H', I3, rv, ev, q3⟩ := I2.after z
      subst ev
      exact ⟨rv, V.ref (hp.objs.size + 1), H', I3, rfl, q3⟩
theorem pe_xm (T : XIn X.K C fI) (F : FnOk X.prog X.w X.K X.mg X.base CX k fI fd ps sp) (hr : Room (k + 1) X.A) (hg : Gl X x) (hm : X.mg x = some (.ref C)) (hb : XB X.K fd ps [] g gV) (hx : Passes CX X (fun _ _ _ => False))
    (ha : PA X (e :: es) t) (hdb : (x == ("__debug__" : Str)) = false := by decide) (he : starEach (e :: es) X.env = (false, eval e X.env) :: starEach es X.env := by rfl)
    (hpl : (backTo pos (starEach es X.env)).any (·.1) = false := by rfl) : PE X (.Call (.Name x p) (e :: es) [] pos) (tXm C sp gV t tNil) := by
  constructor
  intro pins s σ H Q I h
  refine wpAny_Call_Name_kw (ld_glob I hg hm ?_ hdb)
  refine PySem.W.callWith_K (h₀ := X.base) I.ok.mod.kin T.kp (thn (ha.run pos pins s σ H _ I h) ?_) he hpl
  rintro us s1 ⟨vs, H1, I1, r, q⟩
  obtain ⟨len, q⟩ := q
  exact ⟨I1.kIn, run_x (ks := []) (ws := []) T F hr hb hx I1 r .nil len q⟩
theorem pe_xm0 (T : XIn X.K C fI) (F : FnOk X.prog X.w X.K X.mg X.base CX k fI fd ps sp) (hr : Room (k + 1) X.A) (hg : Gl X x) (hm : X.mg x = some (.ref C)) (hb : XB X.K fd ps [] g gV) (hx : Passes CX X (fun _ _ _ => False))
    (hdb : (x == ("__debug__" : Str)) = false := by decide) : PE X (.Call (.Name x p) [] [] pos) (tXm C sp gV tNil tNil) := by
  constructor
  intro pins s σ H Q I h
  obtain ⟨len, q⟩ := h
  refine wpAny_Call_Name_kw (ld_glob I hg hm ?_ hdb)
  exact PySem.W.callWith_K0 I.kIn T.kp (run_x (us := []) (ks := []) (ws := []) T F hr hb hx I .nil .nil len q)
theorem pe_xk (T : XIn X.K C fI) (F : FnOk X.prog X.w X.K X.mg X.base CX k fI fd ps sp) (hr : Room (k + 1) X.A) (hg : Gl X x) (hm : X.mg x = some (.ref C)) (hb : XB X.K fd ps ks g gV) (hx : Passes CX X (fun _ _ _ => False))
    (hkw : PK X kws tk) (hall : (backToKw pos (keywordEach kws X.env)).all (·.1.isSome) = true := by rfl) (hks : (backToKw pos (keywordEach kws X.env)).filterMap (·.1) = ks := by rfl)
    (hdb : (x == ("__debug__" : Str)) = false := by decide)
    (hpl : ((backTo pos (starEach [] X.env)).any (·.1) || (backToKw pos (keywordEach kws X.env)).any (·.1.isNone)) = false := by rfl) :
    PE X (.Call (.Name x p) [] kws pos) (tXm C sp gV tNil tk) := by
  constructor
  intro pins s σ H Q I h
  refine wpAny_Call_Name_kw (ld_glob I hg hm ?_ hdb)
  refine PySem.W.callWith_KW0 (h₀ := X.base) I.ok.mod.kin T.kp hall (thn (hkw.run pos pins s σ H _ I h) ?_) hpl
  rintro ws s2 ⟨zs, H2, I2, rz, len, q2⟩
  rw [hks]
  exact ⟨I2.kIn, run_x (us := []) T F hr hb hx I2 .nil rz len q2⟩
/-- an exception of the class C stands at a, its fields fs -/
def XAt (K : PySem.W.Frag) (H : Hp) (a C : Addr) (fs : List (Str × V)) : Prop := XCl K C ∧ ((fs = [] ∧ H a = some (exo a C none)) ∨ ∃ d, H a = some (exo a C (some d)) ∧ H d = some (exd d fs))
/-- e.f -/
def tXf1 (K : PySem.W.Frag) (f : Str) (te : TE) : TE := fun σ H Q => te σ H fun x H1 => ∃ (a C : Addr) (fs : List (Str × V)) (v : V), x = .ref a ∧ XAt K H1 a C fs ∧ PySem.W.findIn K (.ref C) f = some none ∧ fs.lookup f = some v ∧ Q v H1
theorem pe_xf1 {n : Str} (he : PE X e te) (hb : attributeBase e n X.env (eval e X.env) = eval e X.env := by rfl) : PE X (.Attribute e n pos) (tXf1 X.K n te) := by
  constructor
  intro pins s σ H Q I h
  refine attr_of hb (thn (he.run pins s σ H _ I h) ?_)
  rintro u s1 ⟨x, H1, I1, rx, a, C, fs, v, rfl, ⟨T, at_⟩, no, l, q⟩
  cases rx
  rcases at_ with ⟨rfl, _⟩ | ⟨d, ea, ed⟩
  · cases l
  · obtain ⟨t1, ga⟩ := exo_at I1.hok ea
    obtain ⟨mA, ns, rel⟩ := exd_at I1.hok ed
    obtain ⟨od, go, hl⟩ := lookIn_ns ns
    obtain ⟨u, hu, ru⟩ := RelO.some_of (v := v) (o := mA n) (by rw [← l]; exact rel n)
    exact PySem.PX.exc_get I1.kIn (od := some od) ⟨ga, rfl, rfl, go⟩ T.ga T.gg T.ex (PySem.W.findObj_own T.hd no rfl (by rw [hl, hu])) (handed_of ru) ⟨v, H1, I1.tok _, ru, q⟩
/-- isinstance(e, c) -/
def rIsX (K : PySem.W.Frag) : List V → Hp → VK → Prop := fun xs H Q => ∃ (a C : Addr) (fs : List (Str × V)) (c : V) (cv : Value) (b : Bool), xs = [.ref a, c] ∧ XAt K H a C fs ∧ ClsV c cv ∧ PySem.W.kitOne K (.ref C) cv = some b ∧ Q (.bl b) H
theorem call_isX (cg : PySem.W.specialIn X.K (.builtin "object.__class__") "__get__" = some (some (.builtin "getset_descriptor.__get__"))) (ct : PySem.W.takesIn X.K (.builtin "object.__class__") = some true) :
    CallR X (.builtin "isinstance") (rIsX X.K) := by
  intro pins s σ H xs us Q I r h
  obtain ⟨a, C, fs, c, cv, b, rfl, ⟨T, at_⟩, hc, e, q⟩ := h
  obtain ⟨u1, u2, rfl, r1, r2⟩ := vals2 r
  cases r1
  have e2 := hc.eq r2
  subst e2
  have cls : (PySem.W.clsIn X.K C).isSome = true := by
    obtain ⟨cd, z, _⟩ := PySem.W.any_some T.hd
    rw [z]
    rfl
  have inst : ∃ ox od, PySem.W.InstAt s.heap a ox C od := by
    rcases at_ with ⟨_, ea⟩ | ⟨d, ea, ed⟩
    · obtain ⟨t1, ga⟩ := exo_at I.hok ea
      exact ⟨_, none, ga, rfl, rfl, trivial⟩
    · obtain ⟨t1, ga⟩ := exo_at I.hok ea
      obtain ⟨mA, ns, rel⟩ := exd_at I.hok ed
      obtain ⟨od, go, hl⟩ := lookIn_ns ns
      exact ⟨_, some od, ga, rfl, rfl, go⟩
  obtain ⟨ox, od, J⟩ := inst
  exact PySem.W.kia_one (PySem.W.kitx_exc cls T.ga T.gg T.ex T.ca cg ct T.ob) I.kIn J e (fun z => nomatch z) fun tk => ⟨.bl b, H, I.tok tk, rfl, q⟩
/-- C(e, ..) of a class without an __init__ of its own -/
def tXb (C : Addr) (t : TA) : TE := fun σ H Q => t σ H fun vs H1 => vs.length ≤ 1000 ∧ ∀ a, H1 a = none → Q (.ref a) (upd H1 a (exo a C none))
theorem pe_xb (T : XCl X.K C) (hi : ∃ B newId initId bmB, ExcBaseFacts B newId initId bmB ∧ PySem.W.excInitIn X.K C bmB newId = true ∧ PySem.W.findIn X.K (.ref C) "__init__" = some (some (.builtin initId)))
    (hg : Gl X x) (hm : X.mg x = some (.ref C)) (ha : PA X (e :: es) t) (hdb : (x == ("__debug__" : Str)) = false := by decide)
    (he : starEach (e :: es) X.env = (false, eval e X.env) :: starEach es X.env := by rfl) (hpl : (backTo pos (starEach es X.env)).any (·.1) = false := by rfl) :
    PE X (.Call (.Name x p) (e :: es) [] pos) (tXb C t) := by
  constructor
  intro pins s σ H Q I h
  obtain ⟨B, nI, iI, bmB, BF, ii, fi⟩ := hi
  refine wpAny_Call_Name_kw (ld_glob I hg hm ?_ hdb)
  refine PySem.W.callWith_K (h₀ := X.base) I.ok.mod.kin T.kp (thn (ha.run pos pins s σ H _ I h) ?_) he hpl
  rintro us s1 ⟨vs, H1, I1, r, len, q⟩
  refine ⟨I1.kIn, ?_⟩
  obtain ⟨nm, N', qn, bs, bm, hdct, sn, sub, ab, col, dd, k0, k1, k2, k3, k5, cl, hT⟩ := PySem.W.excInit_of I1.kIn ii
  have lk := PySem.W.looks_findIn (M := model X.prog X.w) I1.kIn fi
  obtain ⟨hp, g', dr, tk', os⟩ := s1
  show wpAny _ _ (call (.ref C) us) _ _ _
  refine PySem.W.call_B BF hT cl lk (by rw [← r.length, sizeLine_eq]; omega) fun h' keep new _ => ?_
  exact ⟨V.ref (hp.objs.size + 1), _, I1.laid (t' := tk') keep (Nat.le_succ _) (exo_ok new), rfl, q _ (I1.hok.fresh (Nat.le_succ _))⟩
end
end Xl

namespace Gy
open PySem PySem.Spec PyProof.Rows L2
/-- data, or a dict without entries, or one whose only key is the text k and whose value is an int -/
inductive Dz (K : PySem.W.Frag) (H : Hp) : V → PyData → Prop
  | dat {v : V} {d : PyData} (h : Dp K H v d) (n : d.hasDict = false) : Dz K H v d
  | d0 {a : Addr} (h : H a = some (.dK [])) : Dz K H (.ref a) (.dict [])
  | d1 {a : Addr} {k : Str} {i : Int} (h : H a = some (.dK [(Sum.inr k, .int i)])) : Dz K H (.ref a) (.dict [(.str k, .int i)])
theorem Dz.reads {X : Cx} {pins : List (Addr × Obj)} {σ : L2.St} {H : Hp} {s : Shared} (I : Inv X pins σ H s) {v : V} {d : PyData} {u : Value} (h : Dz X.K H v d) (r : RelV v u) :
    ∃ as, Reads s.heap u d as ∧ (d.hasDict = true → sysModules ∉ as) := by
  cases h with
  | dat h n =>
    obtain ⟨as, z⟩ := Dp.reads I d v u h r
    exact ⟨as, z, fun q => by rw [n] at q; cases q⟩
  | @d0 a h =>
    cases r
    obtain ⟨_, ns, vs, kv, o, es, ep, g1, ex, g2, ks, ps, _⟩ := (show ObjOk X.prog X.w H s.heap a (.dK []) from I.hok a _ h)
    cases kv
    have e : es.toList = [] := by
      generalize es.toList = l at ps
      cases ps
      rfl
    refine ⟨_, .dict g1 ex.1 g2 (as := []) (bs := []) (by rw [e]; exact .nil) (by rw [e]; exact .nil), fun _ q => ?_⟩
    rw [List.append_nil, List.mem_singleton] at q
    rw [← q] at ns
    cases ns
  | @d1 a k i h =>
    cases r
    obtain ⟨_, ns, vs, kv, o, es, ep, g1, ex, g2, ks, ps, _⟩ := (show ObjOk X.prog X.w H s.heap a (.dK [(Sum.inr k, .int i)]) from I.hok a _ h)
    obtain ⟨t1, t2, e1, e2⟩ : ∃ t1 t2, es.toList.map (·.key) = [.str k t1] ∧ es.toList.map (·.val) = [.int i t2] := by
      generalize es.toList = l at ps
      cases kv with
      | cons hk hr =>
        cases hr
        obtain ⟨h1, h2⟩ := hk
        cases ps with
        | cons p1 p2 p3 =>
          cases p3
          rw [← h1] at p1
          rcases keyIs_shape (show keyIs (Sum.inr k) _ = true from p1) with ⟨j, t, q, _⟩ | ⟨x, t, q, q2⟩
          · cases q
          · cases q
            obtain ⟨t2, h2⟩ := h2
            refine ⟨t, t2, ?_, ?_⟩
            · rw [List.map_singleton, q2]
            · rw [List.map_singleton, p2, h2]
    refine ⟨_, .dict g1 ex.1 g2 (as := [] ++ []) (bs := [] ++ []) (by rw [e1]; exact .cons (.str k t1) .nil) (by rw [e2]; exact .cons (.int i t2) .nil), fun _ q => ?_⟩
    have q' : sysModules ∈ [a] := q
    rw [List.mem_singleton] at q'
    rw [← q'] at ns
    cases ns
/-- each of them shown -/
theorem shows_all {X : Cx} {pins : List (Addr × Obj)} {σ : L2.St} {H : Hp} {s : Shared} (I : Inv X pins σ H s) : ∀ {vs : List V} {ds : List PyData} {us : List Value}, Paired (Dz X.K H) vs ds → Vals vs us →
    PyData.showableAll ds = true → (∀ t ∈ PyData.shownAll ds, t.length ≤ sizeLine) →
    ∃ as bs, ReadsAll s.heap us ds as ∧ ReadAtMost s.heap (PyData.depthAll ds) bs ∧ ReprAllK X.prog X.w bs s.heap (PyData.depthAll ds) us (PyData.shownAll ds)
  | _, _, _, .nil, .nil, _, _ => ⟨[], [], .nil, (fun _ h => nomatch h), .nil⟩
  | _, _, _, .cons (b := d) (l₂ := ds) h hs, .cons r rs, sh, len => by
    have sh2 : d.showable = true ∧ PyData.showableAll ds = true := by simpa only [PyData.showableAll, Bool.and_eq_true] using sh
    obtain ⟨as, rd, no⟩ := h.reads I r
    obtain ⟨b1, m1, k1⟩ := ReprK.of_reads (prog := X.prog) (w := X.w) rd sh2.1 no (len _ List.mem_cons_self)
    obtain ⟨as2, b2, rd2, m2, k2⟩ := shows_all I hs rs sh2.2 fun t ht => len t (List.mem_cons_of_mem _ ht)
    have l1 : d.depth ≤ PyData.depthAll (d :: ds) := Nat.le_max_left _ _
    have l2 : PyData.depthAll ds ≤ PyData.depthAll (d :: ds) := Nat.le_max_right _ _
    refine ⟨as ++ as2, b1 ++ b2, .cons rd rd2, (m1.mono l1).append (m2.mono l2), ?_⟩
    exact .cons ((k1.more fun b hb => List.mem_append_left _ hb).level_le l1) (k2.more_le (fun b hb => List.mem_append_right _ hb) l2)
/-- repr of a list of such values -/
def rRepr (K : PySem.W.Frag) : List V → Hp → VK → Prop := fun xs H Q => ∃ l vs ds, xs = [.ref l] ∧ SqL K H l vs ∧ vs ≠ [] ∧ Paired (Dz K H) vs ds ∧ PyData.showableAll ds = true ∧ PyData.depthAll ds ≤ 60 ∧
  (listText (PyData.shownAll ds)).length ≤ sizeLine ∧ Q (.str (listText (PyData.shownAll ds))) H
theorem repr_dz {X : Cx} (hg : X.A.guards = some []) (hu : X.A.units + 70 < cLine) : CallR X (.builtin "repr") (rRepr X.K) := by
  intro pins s σ H xs us Q I r h
  obtain ⟨l, vs, ds, rfl, sq, nn, dz, sh, dp, len, q⟩ := h
  obtain ⟨u, rfl, ru⟩ := vals1 r
  cases ru
  obtain ⟨its, rv, ⟨o, n, g1, g2, _, g3⟩, _⟩ := I.list sq
  obtain ⟨as, bs, rd, at_, sw⟩ := shows_all I dz rv sh fun t ht => Nat.le_trans (listText_mem_le ht) len
  have out : l ∉ bs := not_mem_of_deeper (.list g1 g2 g3 rd) (by simp only [PyData.depth]; omega) at_
  match its, nn, rv, g3, rd, sw with
  | [], nn, rv, _, _, _ =>
    cases rv
    exact absurd rfl nn
  | x :: rest, _, _, g3, _, sw =>
    refine call_repr_slot (T := "list") (idr := "list.__repr__") (by omega) ⟨o, g1, g2⟩ F.slot_list_repr.toG ?_
    refine call_list_reprK g1 g2 g3 out (by simpa using sw.length_eq) (fun i y e => sw.item i y (by simpa using e)) (g := []) hg (fun b _ => Clear.nil b) (d := PyData.depthAll ds) ?_ (fun _ _ e => e) (fun h' u tk hk => ?_) len
    · show X.A.units + 1 + (PyData.depthAll ds + 1) < cLine
      omega
    · exact ⟨_, _, rfl, .str _, H, I.kept hk, ⟨u, rfl⟩, q⟩
end Gy

/-! Own exceptions over any base raised and caught: one field; several clauses with a name. -/
namespace Xl
open PySem PySem.Spec PyProof.Rows L2 Gy
/-- an __init__ of one field f -/
def spI1 (C : Addr) (f : Str) : Sp := fun vs H Q _ => ∃ (a : Addr) (v : V), vs = [.ref a, v] ∧ H a = some (exo a C none) ∧ ∀ dx, H dx = none → dx ≠ a → Q .non (upd (upd H dx (exd dx [(f, v)])) a (exo a C (some dx)))
theorem del_made {H : Hp} {a dx C : Addr} {f : Str} {v : V} (n : H a = none) (ne : dx ≠ a) :
    upd (del (upd (upd (upd H a (exo a C none)) dx (exd dx [(f, v)])) a (exo a C (some dx))) a) dx (.xd [(f, v)]) = upd H dx (.xd [(f, v)]) := by
  funext b
  by_cases h1 : b = dx
  · rw [h1, upd_same, upd_same]
  · rw [upd_ne h1, upd_ne h1]
    by_cases h2 : b = a
    · rw [h2, del_same, n]
    · rw [del_ne h2, upd_ne h2, upd_ne h1, upd_ne h2]
section
variable {X : Cx} {C fI : Addr} {fd : FuncData} {f x : Str} {e : Expr} {te : TE} {p pos : Pos} {CX' : CXT}
/-- C(e), to be raised -/
def tMk1 (C : Addr) (f : Str) (t : TA) : L2.St → Hp → XK → Prop := fun σ H Q => t σ H fun vs H1 => ∃ v, vs = [v] ∧ ∀ d, H1 d = none → Q (.ref C) (some d) (upd H1 d (.xd [(f, v)]))
theorem pmk_x1 {t : TA} (T : XIn X.K C fI) (ty : PySem.W.typeIn X.K (.ref C) = some (.type "type")) (F : FnOk X.prog X.w X.K X.mg X.base CX0 1 fI fd ["self", f] (spI1 C f)) (hr : Room 2 X.A)
    (hb : XB X.K fd ["self", f] [] (fun us _ => us) (fun vs _ => vs)) (hg : Gl X x) (hm : X.mg x = some (.ref C)) (ha : PA X [e] t)
    (hdb : (x == ("__debug__" : Str)) = false := by decide) (hst : starEach [e] X.env = (false, eval e X.env) :: starEach [] X.env := by rfl) :
    PMk X (.Call (.Name x p) [e] [] pos) (tMk1 C f t) := by
  intro pins s σ H Q I h
  refine wpAny_Call_Name_kw (ld_glob I hg hm ?_ hdb)
  refine PySem.W.callWith_K (h₀ := X.base) I.ok.mod.kin T.kp (thn (ha.run pos pins s σ H _ I h) ?_) hst rfl
  rintro us s1 ⟨vs, H1, I1, r1, v, rfl, q1⟩
  refine ⟨I1.kIn, ?_⟩
  show wpAny _ _ (call (.ref C) us) _ _ _
  obtain ⟨B, nI, iI, bmB, BF, _, ii, _⟩ := T.base
  obtain ⟨nm, N', qn, bs, bm, hdct, sn, sub, ab, col, dd, k0, k1, k2, k3, k5, cl, hT⟩ := PySem.W.excInit_of I1.kIn ii
  obtain ⟨hp, g', dr, tk', os⟩ := s1
  have big : hp.objs.size ≤ hp.objs.size + 1 := Nat.le_succ _
  have na : H1 (hp.objs.size + 1) = none := I1.hok.fresh big
  have keep : ∀ b o, hp.get? b = some o → ((hp.push (PySem.W.kdv_tup us)).push (PySem.PX.excO C hp.objs.size)).get? b = some o := fun b o e =>
    Heap.get?_push_of_some _ (Heap.get?_push_of_some _ e)
  have new : ((hp.push (PySem.W.kdv_tup us)).push (PySem.PX.excO C hp.objs.size)).get? (hp.objs.size + 1) = some (PySem.PX.excO C hp.objs.size) := by heap_get
  have I2 := I1.laid (t' := tk') (a := hp.objs.size + 1) (o := exo (hp.objs.size + 1) C none) keep big (exo_ok new)
  have r2 : Vals [V.ref (hp.objs.size + 1), v] (Value.ref (hp.objs.size + 1) :: us) := .cons rfl r1
  have hq : spI1 C f [V.ref (hp.objs.size + 1), v] (upd H1 (hp.objs.size + 1) (exo (hp.objs.size + 1) C none))
      (fun r H2 => r = .non ∧ ∃ dx, dx ≠ hp.objs.size + 1 ∧ upd H1 (hp.objs.size + 1) (exo (hp.objs.size + 1) C none) dx = none ∧
        H2 = upd (upd (upd H1 (hp.objs.size + 1) (exo (hp.objs.size + 1) C none)) dx (exd dx [(f, v)])) (hp.objs.size + 1) (exo (hp.objs.size + 1) C (some dx))) (fun _ _ _ => False) :=
    ⟨_, v, rfl, upd_same, fun dx nd ne => ⟨rfl, dx, ne, nd, rfl⟩⟩
  have bl := hb.to ⟨_, g', dr, tk', os⟩ (Value.ref (hp.objs.size + 1)) us [] I2.kIn (by rw [← r2.length]; rfl)
  refine wpAny_call (PySem.Xg.kw_call BF hT cl (PySem.W.looks_findIn I1.kIn T.ini) (fun self => PySem.W.bind_fn I1.kIn self T.tf) ?_ (codeAny_mono (F.run _ X.stack _ _ _ _ _ _ _ (hr.make C us []) (I2.env0.make C us []) bl r2 hq) ?_))
  · rw [← r1.length, sizeLine_eq]
    show 1 ≤ 16777216
    decide
  · rintro (er | (_ | _ | _ | u)) s' z
    · exact (show False from z).elim
    · exact z.elim
    · exact z.elim
    · exact z.elim
    · obtain ⟨r, H2, os2, bare2, un2, hok2, rv, er, dx, ne, nd, e2⟩ := z
      subst er
      obtain ⟨h2, g2, d2, t2, os'⟩ := s'
      subst e2
      refine ⟨rv, mk_end (raises_own T.ex ty) I1 big keep un2 hok2 os2 bare2 upd_same ((upd_ne ne).trans upd_same) ((upd_ne ne).symm.trans nd) ?_⟩
      rw [del_made na ne]
      exact q1 dx ((upd_ne ne).symm.trans nd)
/-- raise C(e) -/
theorem ps_raise1 {W : WX} {t : TA} {rp : Pos} (hc : X.calm = true) (tk : Takes X W) (T : XIn X.K C fI) (ty : PySem.W.typeIn X.K (.ref C) = some (.type "type")) (F : FnOk X.prog X.w X.K X.mg X.base CX0 1 fI fd ["self", f] (spI1 C f)) (hr : Room 2 X.A)
    (hb : XB X.K fd ["self", f] [] (fun us _ => us) (fun vs _ => vs)) (hg : Gl X x) (hm : X.mg x = some (.ref C)) (ha : PA X [e] t)
    (hdb : (x == ("__debug__" : Str)) = false := by decide) (hst : starEach [e] X.env = (false, eval e X.env) :: starEach [] X.env := by rfl) :
    PS X (.Raise (some (.Call (.Name x p) [e] [] pos)) none rp) (fun _ σ H => tMk1 C f t σ H fun cls d H' => W cls d σ H') :=
  ps_raise hc tk (pmk_x1 T ty F hr hb hg hm ha hdb hst)
end
section
variable {X : Cx}
/-- what several clauses 'except x as n' wish of an exception of the body, one after the other: slot i is n's -/
def wManyAs (K : PySem.W.Frag) (i : Nat) (Wout : WX) (D : Ends) : List (Value × (Addr → Value → Option Addr → TS)) → WX
  | [] => Wout
  | (c, ts) :: r => fun cls d σ H => ∃ b, PySem.W.exmOne K cls c = some b ∧
      (b = true → ∀ a, H a = none → ts a cls d { nx := fun σ' H' => D.nx (σ'.set i none) H', rt := D.rt, bk := fun σ' H' => D.bk (σ'.set i none) H', ct := fun σ' H' => D.ct (σ'.set i none) H' } (σ.set i (some (.ref a))) H) ∧
      (b = false → wManyAs K i Wout D r cls d σ H)
inductive HdsAs (X : Cx) (n : Str) : List ExceptHandler → List (Value × (Addr → Value → Option Addr → TS)) → Prop
  | nil : HdsAs X n [] []
  | cons {x : Str} {c : Value} {ts : Addr → Value → Option Addr → TS} {b₀ : Stmt} {suite : List Stmt} {np pos' : Pos} {hds : List ExceptHandler} {l : List (Value × (Addr → Value → Option Addr → TS))} (hc : Names X x c)
      (hsu : ∀ (a : Addr) (oe : Obj) (cls : Value) (d : Option Addr) (pn : List (Addr × Obj)), Zc cls d oe → (∃ vs, oe.data = .fields vs) → PSs (X.suite a ((a, oe) :: pn)) (b₀ :: suite) (ts a cls d)) (r : HdsAs X n hds l) :
      HdsAs X n (.ExceptHandler (some (.Name x np)) (some n) (b₀ :: suite) pos' :: hds) ((c, ts) :: l)
variable {body : List Stmt} {h₀ : ExceptHandler} {hds : List ExceptHandler} {l : List (Value × (Addr → Value → Option Addr → TS))} {n : Str} {i : Nat} {pos : Pos} {tb : WX → TS} {Wout : WX}
/-- try: body, several clauses 'except x as n' -/
theorem ps_try_manyAs (hs : X.stack = X.env :: X.outer) (hf : X.env.frame = some X.env.locals) (hN : X.N.Nodup) (hi : X.N[i]? = some n) (hln : X.env.kindOf n = some .local) (tk : Takes X Wout)
    (hb : ∀ (W : WX) (pn : List (Addr × Obj)) (xe : Value → Shared → Prop), Takes (X.tr pn xe) W → PassesOwn (model X.prog X.w) X.A X.env xe → PSs (X.tr pn xe) body (tb W))
    (hh : HdsAs X n (h₀ :: hds) l) : PS X (.Try body (h₀ :: hds) [] [] pos) (fun D σ H => tb (wManyAs X.K i Wout D l) D σ H) := by
  constructor
  intro pins s σ H D I h
  have ok := I.ok
  have fr : X.A.frames = some (X.env :: X.outer) := by
    rw [ok.frames, hs]
  refine wpAny_Try_except ?_
  have run := hb (wManyAs X.K i Wout D l) (X.pn ++ pins) (fun e s₁ => wpAny (model X.prog X.w) X.A (noteFrame e X.env) (fun _ s₂ => wpAny (model X.prog X.w) X.A (setFlight e none)
    (fun _ s₃ => wpAny (model X.prog X.w) X.A (handleBy e X.env (h₀ :: hds)) (SP X pins D) X.xe s₃) X.xe s₂) X.xe s₁) ?tk PassesOwn.looking
  case tk =>
    rintro u s' ⟨a, B, sI, pins', σ', H', cls, d, rfl, J', nb, up, sky, na, os, ag, wish⟩
    have J := J'.ofTry ok
    rw [show (X.tr (X.pn ++ pins) _).stack = X.env :: X.outer from hs] at sky
    refine Sky.land Zc.steady fr hf sky fun h3 fl3 up3 => ?_
    have J3 : Inv X pins σ' H' { s' with heap := h3 } := J.landed nb fl3.1 (up.trans up3) os ag
    obtain ⟨oe3, vs3, at3, z3, d3⟩ := fl3.there
    have out : a ∉ frs (X.env :: X.outer) := fun m => by
      obtain ⟨_, o', q', nf⟩ := fl3.2.2.1.mem m
      rw [at3] at q'
      cases q'
      exact nf _ d3
    have nL : a ≠ X.env.locals := fun z => out (List.mem_filterMap.mpr ⟨X.env, List.mem_cons_self, by rw [hf, z]⟩)
    have nF : a ∉ X.fs := fun m => by
      obtain ⟨e', he', q'⟩ := List.mem_filterMap.mp m
      exact out (List.mem_filterMap.mpr ⟨e', List.mem_cons_of_mem _ he', q'⟩)
    have S3 := J3.suite at3 d3 na nL nF
    have go : ∀ {hds' l'}, HdsAs X n hds' l' → wManyAs X.K i Wout D l' cls d σ' H' → wpAny (model X.prog X.w) X.A (handleBy (.ref a) X.env hds') (SP X pins D) X.xe { s' with heap := h3 } := by
      intro hds' l' hk
      induction hk with
      | nil =>
        intro wish
        refine wpAny_handleBy_nil ?_
        obtain ⟨k1, k2, k3, oe, vs, T, oT, ts', he, hz, hd, h1, hr⟩ := id fl3
        unfold PySem.passOn
        refine wpAny_bind (wpAny_field he hd h1 ?_)
        rw [if_neg (show ¬ ((Value.ref T == Value.none) = true) from by simp)]
        have fin : wpAny (model X.prog X.w) X.A (setFlight (.ref a) X.env.frame) (fun _ s4 => wpAny (model X.prog X.w) X.A (throw (.ref a) : Sem Flow) (SP X pins D) X.xe s4) X.xe { s' with heap := h3 } := by
          rw [hf]
          refine HandSPX.setFlight_upZ fl3 fun h4 hh4 up4 => wpAny_throw (tk _ _ ?_)
          refine ⟨a, B, sI, pins, σ', H', cls, d, rfl, J, nb, (up.trans up3).trans up4, .inr (.inr ?_), na, os, ag, wish⟩
          rw [hs]
          exact hh4
        first
          | exact wpAny_bind (wpAny_pure (wpAny_bind fin))
          | exact wpAny_bind fin
      | @cons x c ts b₀ suite np pos' hds2 l2 hc hsu r ih =>
        rintro ⟨b, hb1, yes, no⟩
        refine wpAny_handleBy_cons (codeAny_handlers_test ?_) (by intro q; cases q)
        have ty : PySem.W.Looks (model X.prog X.w) h3 (typeOf (.ref a)) cls := fun A Q E s k q => wpAny_typeOf_ref (k _ _ at3) (by rw [z3.1]; exact q)
        have look := PySem.W.exm_one (M := model X.prog X.w) J3.kIn ty hb1
        have name : ∀ {Q : Value → Shared → Prop} {E : Value → Shared → Prop}, Q c { s' with heap := h3 } → wpAny (model X.prog X.w) (X.A.mark (some (.ref a))) (eval (.Name x np) X.env) Q E { s' with heap := h3 } := by
          intro Q E q
          obtain ⟨hg, hdbg, hm | ⟨hm, hv, hnn⟩⟩ := hc
          · exact ld_glob (X := X.suite a ((a, oe3) :: (X.pn ++ pins))) S3 hg hm q hdbg
          · exact ld_blt (X := X.suite a ((a, oe3) :: (X.pn ++ pins))) S3 hg hm hv q hnn hdbg
        refine name (look.here ?_)
        cases b with
        | false =>
          show wpAny _ X.A (handleBy (.ref a) X.env hds2) _ _ _
          exact ih (no rfl)
        | true =>
          refine codeAny_handlers_suite_as ?_
          refine HandSPX.lands_againZ fl3 fun h4 fl4 up4 => ?_
          have J4 : Inv X pins σ' H' { s' with heap := h4 } := J.landed nb fl4.1 ((up.trans up3).trans up4) os ag
          obtain ⟨oe4, vs4, at4, z4, d4⟩ := fl4.there
          have S4 := J4.suite at4 d4 na nL nF
          refine store_ok (X := X.suite a ((a, oe4) :: (X.pn ++ pins))) (v := .ref a) S4 hN hi (.inl hln) rfl (fun s5 S5 => ?_) (.inr hln)
          refine wpAny_mono ((hsu a oe4 cls d (X.pn ++ pins) z4 ⟨_, d4⟩).run [] s5 _ H' _ S5 (yes rfl a na)) (fun f s6 sp => ?_) (fun _ _ z => False.elim z)
          have leave : ∀ {σ6 : L2.St} {H6 : Hp} {Q : Shared → Prop}, Inv (X.suite a ((a, oe4) :: (X.pn ++ pins))) [] σ6 H6 s6 → (∀ s7, Inv X pins (σ6.set i none) H6 s7 → Q s7) →
              wpAny (model X.prog X.w) X.A (do bindName X.env n .none; unbindBehindTheSuite X.env n pos') (fun _ s7 => Q s7) X.xe s6 := fun S6 hq => gone_ok (S6.unsuite ok) hN hi hln hq
          cases f with
          | ret u =>
            obtain ⟨v6, σ6, H6, S6, r6, q6⟩ := sp
            exact leave S6 fun s7 J7 => ⟨_, _, _, J7, r6, q6⟩
          | _ =>
            obtain ⟨σ6, H6, S6, q6⟩ := sp
            exact leave S6 fun s7 J7 => ⟨_, _, J7, q6⟩
    exact go hh wish
  refine wpAny_mono (run.run [] s σ H D (I.toTry _) h) (fun f s1 sp => ?_) (fun e s1 he => he)
  cases f with
  | next =>
    obtain ⟨σ', H', J', q⟩ := sp
    exact wpAny_execs_nil ⟨σ', H', J'.ofTry ok, q⟩
  | ret u =>
    obtain ⟨v, σ', H', J', r, q⟩ := sp
    exact ⟨v, σ', H', J'.ofTry ok, r, q⟩
  | _ =>
    obtain ⟨σ', H', J', q⟩ := sp
    exact ⟨σ', H', J'.ofTry ok, q⟩
end
end Xl

/-! several clauses 'except X as n' and 'except (X, ..) as n'. -/
namespace Xl
open PySem PySem.Spec PyProof.Rows L2 Gy
/-- what a clause names -/
inductive Cl where
  | one (c : Value)
  | tup (cs : List Value)
def Cl.hit (K : PySem.W.Frag) (cls : Value) : Cl → Option Bool
  | .one c => PySem.W.exmOne K cls c
  | .tup cs => PySem.W.exmAny K cls cs
theorem flying_keep {B h h' : Heap} {l : List Env} {e : Addr} {Z : Obj → Prop} (x : HandSPX.FlyingZ B l e Z h) (k : ∀ b o, h.get? b = some o → h'.get? b = some o) : HandSPX.FlyingZ B l e Z h' := by
  obtain ⟨k1, k2, k3, oe, vs, T, oT, ts, e1, z, d, v, n1, n2, e2, r⟩ := x
  exact ⟨fun b o q => k _ _ (k1 b o q), k2, k3.of_keeps fun b o q _ => ⟨o, k _ _ q, rfl⟩, oe, vs, T, oT, ts, k _ _ e1, z, d, v, n1, n2, k _ _ e2, r⟩
section
variable {X : Cx}
def wManyT (K : PySem.W.Frag) (i : Nat) (Wout : WX) (D : Ends) : List (Cl × (Addr → Value → Option Addr → TS)) → WX
  | [] => Wout
  | (c, ts) :: r => fun cls d σ H => ∃ b, c.hit K cls = some b ∧
      (b = true → ∀ a, H a = none → ts a cls d { nx := fun σ' H' => D.nx (σ'.set i none) H', rt := D.rt, bk := fun σ' H' => D.bk (σ'.set i none) H', ct := fun σ' H' => D.ct (σ'.set i none) H' } (σ.set i (some (.ref a))) H) ∧
      (b = false → wManyT K i Wout D r cls d σ H)
/-- the names of a clause's tuple -/
inductive NamesT (X : Cx) : List Expr → List Value → Prop
  | nil : NamesT X [] []
  | cons {x : Str} {c : Value} {np : Pos} {es : List Expr} {cs : List Value} (h : Names X x c) (r : NamesT X es cs) : NamesT X (.Name x np :: es) (c :: cs)
abbrev SuiteOk (X : Cx) (su : List Stmt) (ts : Addr → Value → Option Addr → TS) : Prop := ∀ (a : Addr) (oe : Obj) (cls : Value) (d : Option Addr) (pn : List (Addr × Obj)), Zc cls d oe → (∃ vs, oe.data = .fields vs) → PSs (X.suite a ((a, oe) :: pn)) su (ts a cls d)
inductive HdsT (X : Cx) (n : Str) : List ExceptHandler → List (Cl × (Addr → Value → Option Addr → TS)) → Prop
  | nil : HdsT X n [] []
  | one {x : Str} {c : Value} {ts : Addr → Value → Option Addr → TS} {b₀ : Stmt} {suite : List Stmt} {np pos' : Pos} {hds : List ExceptHandler} {l : List (Cl × (Addr → Value → Option Addr → TS))} (hc : Names X x c)
      (hsu : SuiteOk X (b₀ :: suite) ts) (r : HdsT X n hds l) : HdsT X n (.ExceptHandler (some (.Name x np)) (some n) (b₀ :: suite) pos' :: hds) ((.one c, ts) :: l)
  | tup {es : List Expr} {cs : List Value} {ts : Addr → Value → Option Addr → TS} {b₀ : Stmt} {suite : List Stmt} {k : Nat} {np pos' : Pos} {hds : List ExceptHandler} {l : List (Cl × (Addr → Value → Option Addr → TS))} (hc : NamesT X es cs) (hn : cs.length = 2 ∨ cs.length = 4)
      (hst : backTo np (starEach es X.env) = es.map fun e => (false, eval e X.env)) (hsu : SuiteOk X (b₀ :: suite) ts) (r : HdsT X n hds l) : HdsT X n (.ExceptHandler (some (.Tuple es k np)) (some n) (b₀ :: suite) pos' :: hds) ((.tup cs, ts) :: l)
variable {body : List Stmt} {h₀ : ExceptHandler} {hds : List ExceptHandler} {l : List (Cl × (Addr → Value → Option Addr → TS))} {n : Str} {i : Nat} {pos : Pos} {tb : WX → TS} {Wout : WX}
theorem names_run {Y : Cx} {pins : List (Addr × Obj)} {σ : L2.St} {H : Hp} {s : Shared} (I : Inv Y pins σ H s) (eG : ∀ {x c}, Names X x c → Names Y x c) (env : Y.env = X.env) {E : Value → Shared → Prop} : ∀ {es : List Expr} {cs : List Value}, NamesT X es cs → ∀ {Q : List Value → Shared → Prop}, Q cs s →
    wpAny (model Y.prog Y.w) Y.A (spliced (es.map fun e => (false, eval e Y.env))) Q E s := by
  intro es cs h
  induction h with
  | nil => exact fun q => Calls.spliced_nil q
  | @cons x c np es cs hc r ih =>
    intro Q q
    refine Calls.spliced_cons ?_
    obtain ⟨hg, hdbg, hm | ⟨hm, hv, hnn⟩⟩ := eG hc
    · exact ld_glob I hg hm (ih (Q := fun vs s2 => Q (c :: vs) s2) q) hdbg
    · exact ld_blt I hg hm hv (ih (Q := fun vs s2 => Q (c :: vs) s2) q) hnn hdbg
theorem tup_hit {K : PySem.W.Frag} {M : Model} {cs : List Value} {tp e : Addr} {cls : Value} {b : Bool} {h : Heap} (X : K.In h) (LT : PySem.W.Looks M h (typeOf (.ref e)) cls) (hp : h.get? tp = some { cls := .type "tuple", data := .seq cs.toArray }) (hn : cs.length = 2 ∨ cs.length = 4) (hx : PySem.W.exmAny K cls cs = some b) :
    PySem.W.Looks M h (excMatches (.ref e) (.ref tp)) b := by
  match cs, hn with
  | [c1, c2], _ => exact PySem.W.exm_tup2 X LT hp hx
  | [c1, c2, c3, c4], _ => exact PySem.W.exm_tup4 X LT hp hx
theorem ps_try_T (hs : X.stack = X.env :: X.outer) (hf : X.env.frame = some X.env.locals) (hN : X.N.Nodup) (hi : X.N[i]? = some n) (hln : X.env.kindOf n = some .local) (tk : Takes X Wout)
    (hb : ∀ (W : WX) (pn : List (Addr × Obj)) (xe : Value → Shared → Prop), Takes (X.tr pn xe) W → PassesOwn (model X.prog X.w) X.A X.env xe → PSs (X.tr pn xe) body (tb W))
    (hh : HdsT X n (h₀ :: hds) l) : PS X (.Try body (h₀ :: hds) [] [] pos) (fun D σ H => tb (wManyT X.K i Wout D l) D σ H) := by
  constructor
  intro pins s σ H D I h
  have ok := I.ok
  have fr : X.A.frames = some (X.env :: X.outer) := by
    rw [ok.frames, hs]
  refine wpAny_Try_except ?_
  have run := hb (wManyT X.K i Wout D l) (X.pn ++ pins) (fun e s₁ => wpAny (model X.prog X.w) X.A (noteFrame e X.env) (fun _ s₂ => wpAny (model X.prog X.w) X.A (setFlight e none)
    (fun _ s₃ => wpAny (model X.prog X.w) X.A (handleBy e X.env (h₀ :: hds)) (SP X pins D) X.xe s₃) X.xe s₂) X.xe s₁) ?tk PassesOwn.looking
  case tk =>
    rintro u s' ⟨a, B, sI, pins', σ', H', cls, d, rfl, J', nb, up, sky, na, os, ag, wish⟩
    have J := J'.ofTry ok
    rw [show (X.tr (X.pn ++ pins) _).stack = X.env :: X.outer from hs] at sky
    refine Sky.land Zc.steady fr hf sky fun h3 fl3 up3 => ?_
    -- where the exception stands, in any heap in which it flies
    have S : ∀ {hh : Heap}, HandSPX.FlyingZ B (X.env :: X.outer) a (Zc cls d) hh → s'.heap.UpToSlots hh → ∃ oe vs, hh.get? a = some oe ∧ Zc cls d oe ∧ oe.data = .fields vs ∧ Inv X pins σ' H' { s' with heap := hh } ∧ Inv (X.suite a ((a, oe) :: (X.pn ++ pins))) [] σ' H' { s' with heap := hh } := by
      intro hh fl up'
      have J3 : Inv X pins σ' H' { s' with heap := hh } := J.landed nb fl.1 (up.trans up') os ag
      obtain ⟨oe3, vs3, at3, z3, d3⟩ := fl.there
      have out : a ∉ frs (X.env :: X.outer) := fun m => by
        obtain ⟨_, o', q', nf⟩ := fl.2.2.1.mem m
        rw [at3] at q'
        cases q'
        exact nf _ d3
      have nL : a ≠ X.env.locals := fun z => out (List.mem_filterMap.mpr ⟨X.env, List.mem_cons_self, by rw [hf, z]⟩)
      have nF : a ∉ X.fs := fun m => by
        obtain ⟨e', he', q'⟩ := List.mem_filterMap.mp m
        exact out (List.mem_filterMap.mpr ⟨e', List.mem_cons_of_mem _ he', q'⟩)
      exact ⟨oe3, vs3, at3, z3, d3, J3, J3.suite at3 d3 na nL nF⟩
    have go : ∀ {hds' l'}, HdsT X n hds' l' → ∀ (hh : Heap), HandSPX.FlyingZ B (X.env :: X.outer) a (Zc cls d) hh → s'.heap.UpToSlots hh → wManyT X.K i Wout D l' cls d σ' H' → wpAny (model X.prog X.w) X.A (handleBy (.ref a) X.env hds') (SP X pins D) X.xe { s' with heap := hh } := by
      intro hds' l' hk
      induction hk with
      | nil =>
        intro hh fl3 up3 wish
        refine wpAny_handleBy_nil ?_
        obtain ⟨k1, k2, k3, oe, vs, T, oT, ts', he, hz, hd, h1, hr⟩ := id fl3
        unfold PySem.passOn
        refine wpAny_bind (wpAny_field he hd h1 ?_)
        rw [if_neg (show ¬ ((Value.ref T == Value.none) = true) from by simp)]
        have fin : wpAny (model X.prog X.w) X.A (setFlight (.ref a) X.env.frame) (fun _ s4 => wpAny (model X.prog X.w) X.A (throw (.ref a) : Sem Flow) (SP X pins D) X.xe s4) X.xe { s' with heap := hh } := by
          rw [hf]
          refine HandSPX.setFlight_upZ fl3 fun h4 hh4 up4 => wpAny_throw (tk _ _ ?_)
          refine ⟨a, B, sI, pins, σ', H', cls, d, rfl, J, nb, (up.trans up3).trans up4, .inr (.inr ?_), na, os, ag, wish⟩
          rw [hs]
          exact hh4
        first
          | exact wpAny_bind (wpAny_pure (wpAny_bind fin))
          | exact wpAny_bind fin
      | @one x c ts b₀ suite np pos' hds2 l2 hc hsu r ih =>
        rintro hh fl3 up3 ⟨b, hb1, yes, no⟩
        obtain ⟨oe3, vs3, at3, z3, d3, J3, S3⟩ := S fl3 up3
        refine wpAny_handleBy_cons (codeAny_handlers_test ?_) (by intro q; cases q)
        have ty : PySem.W.Looks (model X.prog X.w) hh (typeOf (.ref a)) cls := fun A Q E s k q => wpAny_typeOf_ref (k _ _ at3) (by rw [z3.1]; exact q)
        have look := PySem.W.exm_one (M := model X.prog X.w) J3.kIn ty hb1
        have name : ∀ {Q : Value → Shared → Prop} {E : Value → Shared → Prop}, Q c { s' with heap := hh } → wpAny (model X.prog X.w) (X.A.mark (some (.ref a))) (eval (.Name x np) X.env) Q E { s' with heap := hh } := by
          intro Q E q
          obtain ⟨hg, hdbg, hm | ⟨hm, hv, hnn⟩⟩ := hc
          · exact ld_glob (X := X.suite a ((a, oe3) :: (X.pn ++ pins))) S3 hg hm q hdbg
          · exact ld_blt (X := X.suite a ((a, oe3) :: (X.pn ++ pins))) S3 hg hm hv q hnn hdbg
        refine name (look.here ?_)
        cases b with
        | false =>
          show wpAny _ X.A (handleBy (.ref a) X.env hds2) _ _ _
          exact ih _ fl3 up3 (no rfl)
        | true =>
          refine codeAny_handlers_suite_as ?_
          refine HandSPX.lands_againZ fl3 fun h4 fl4 up4 => ?_
          obtain ⟨oe4, vs4, at4, z4, d4, J4, S4⟩ := S fl4 (up3.trans up4)
          refine store_ok (X := X.suite a ((a, oe4) :: (X.pn ++ pins))) (v := .ref a) S4 hN hi (.inl hln) rfl (fun s5 S5 => ?_) (.inr hln)
          refine wpAny_mono ((hsu a oe4 cls d (X.pn ++ pins) z4 ⟨_, d4⟩).run [] s5 _ H' _ S5 (yes rfl a na)) (fun f s6 sp => ?_) (fun _ _ z => False.elim z)
          have leave : ∀ {σ6 : L2.St} {H6 : Hp} {Q : Shared → Prop}, Inv (X.suite a ((a, oe4) :: (X.pn ++ pins))) [] σ6 H6 s6 → (∀ s7, Inv X pins (σ6.set i none) H6 s7 → Q s7) →
              wpAny (model X.prog X.w) X.A (do bindName X.env n .none; unbindBehindTheSuite X.env n pos') (fun _ s7 => Q s7) X.xe s6 := fun S6 hq => gone_ok (S6.unsuite ok) hN hi hln hq
          cases f with
          | ret u =>
            obtain ⟨v6, σ6, H6, S6, r6, q6⟩ := sp
            exact leave S6 fun s7 J7 => ⟨_, _, _, J7, r6, q6⟩
          | _ =>
            obtain ⟨σ6, H6, S6, q6⟩ := sp
            exact leave S6 fun s7 J7 => ⟨_, _, J7, q6⟩
      | @tup es cs ts b₀ suite kx np pos' hds2 l2 hc hn hst hsu r ih =>
        rintro hh fl3 up3 ⟨b, hb1, yes, no⟩
        obtain ⟨oe3, vs3, at3, z3, d3, J3, S3⟩ := S fl3 up3
        refine wpAny_handleBy_cons (codeAny_handlers_test ?_) (by intro q; cases q)
        refine wpAny_Tuple_spliced ?_
        rw [hst]
        refine names_run (X := X) (Y := X.suite a ((a, oe3) :: (X.pn ++ pins))) S3 (fun z => z) rfl hc ?_
        refine ⟨by rw [sizeLine_eq]; rcases hn with z | z <;> omega, ?_⟩
        have kp : ∀ b o, hh.get? b = some o → (hh.push { cls := .type "tuple", data := .seq cs.toArray }).get? b = some o := fun b o e => Heap.get?_push_of_some _ e
        have gt : (hh.push { cls := .type "tuple", data := .seq cs.toArray }).get? hh.objs.size = some { cls := .type "tuple", data := .seq cs.toArray } := Heap.get?_push_size _ rfl
        show wpAny _ _ (excMatches (.ref a) (.ref hh.objs.size)) _ _ { s' with heap := hh.push { cls := .type "tuple", data := .seq cs.toArray } }
        generalize hh.push { cls := .type "tuple", data := .seq cs.toArray } = h5 at kp gt
        have fl5 := flying_keep fl3 kp
        have up5 : s'.heap.UpToSlots h5 := up3.trans (.of_keeps kp)
        have ty : PySem.W.Looks (model X.prog X.w) h5 (typeOf (.ref a)) cls := fun A Q E s k q => wpAny_typeOf_ref (k _ _ (kp _ _ at3)) (by rw [z3.1]; exact q)
        have look := tup_hit (M := model X.prog X.w) (J3.kIn.keeps kp) ty gt hn hb1
        refine look.here ?_
        cases b with
        | false =>
          show wpAny _ X.A (handleBy (.ref a) X.env hds2) _ _ _
          exact ih _ fl5 up5 (no rfl)
        | true =>
          refine codeAny_handlers_suite_as ?_
          refine HandSPX.lands_againZ fl5 fun h4 fl4 up4 => ?_
          obtain ⟨oe4, vs4, at4, z4, d4, J4, S4⟩ := S fl4 (up5.trans up4)
          refine store_ok (X := X.suite a ((a, oe4) :: (X.pn ++ pins))) (v := .ref a) S4 hN hi (.inl hln) rfl (fun s5 S5 => ?_) (.inr hln)
          refine wpAny_mono ((hsu a oe4 cls d (X.pn ++ pins) z4 ⟨_, d4⟩).run [] s5 _ H' _ S5 (yes rfl a na)) (fun f s6 sp => ?_) (fun _ _ z => False.elim z)
          have leave : ∀ {σ6 : L2.St} {H6 : Hp} {Q : Shared → Prop}, Inv (X.suite a ((a, oe4) :: (X.pn ++ pins))) [] σ6 H6 s6 → (∀ s7, Inv X pins (σ6.set i none) H6 s7 → Q s7) →
              wpAny (model X.prog X.w) X.A (do bindName X.env n .none; unbindBehindTheSuite X.env n pos') (fun _ s7 => Q s7) X.xe s6 := fun S6 hq => gone_ok (S6.unsuite ok) hN hi hln hq
          cases f with
          | ret u =>
            obtain ⟨v6, σ6, H6, S6, r6, q6⟩ := sp
            exact leave S6 fun s7 J7 => ⟨_, _, _, J7, r6, q6⟩
          | _ =>
            obtain ⟨σ6, H6, S6, q6⟩ := sp
            exact leave S6 fun s7 J7 => ⟨_, _, J7, q6⟩
    exact go hh h3 fl3 up3 wish
  refine wpAny_mono (run.run [] s σ H D (I.toTry _) h) (fun f s1 sp => ?_) (fun e s1 he => he)
  cases f with
  | next =>
    obtain ⟨σ', H', J', q⟩ := sp
    exact wpAny_execs_nil ⟨σ', H', J'.ofTry ok, q⟩
  | ret u =>
    obtain ⟨v, σ', H', J', r, q⟩ := sp
    exact ⟨v, σ', H', J'.ofTry ok, r, q⟩
  | _ =>
    obtain ⟨σ', H', J', q⟩ := sp
    exact ⟨σ', H', J'.ofTry ok, q⟩
end
end Xl

/-! In an except suite: isinstance of the caught error, whose fields stand in its dict. -/
namespace Xl
open PySem PySem.Spec PyProof.Rows L2 Gy
def rIsS (K : PySem.W.Frag) (a : Addr) (cls : Value) (d : Option Addr) : List V → Hp → VK → Prop := fun xs H Q => ∃ (D dd : Addr) (fs : List (Str × V)) (c : V) (cv : Value) (b : Bool),
  xs = [.ref a, c] ∧ cls = .ref D ∧ d = some dd ∧ H dd = some (.xd fs) ∧ XCl K D ∧ ClsV c cv ∧ PySem.W.kitOne K (.ref D) cv = some b ∧ Q (.bl b) H
theorem call_isS {X : Cx} {a : Addr} {oe : Obj} {cls : Value} {d : Option Addr} {pn : List (Addr × Obj)} (cg : PySem.W.specialIn X.K (.builtin "object.__class__") "__get__" = some (some (.builtin "getset_descriptor.__get__")))
    (ct : PySem.W.takesIn X.K (.builtin "object.__class__") = some true) (hz : Zc cls d oe) (hf : ∃ vs, oe.data = .fields vs) : CallR (X.suite a ((a, oe) :: pn)) (.builtin "isinstance") (rIsS X.K a cls d) := by
  intro pins s σ H xs us Q I r h
  obtain ⟨D, dd, fs, c, cv, b, rfl, rfl, rfl, hd, T, hc, e, q⟩ := h
  obtain ⟨u1, u2, rfl, r1, r2⟩ := vals2 r
  cases r1
  have e2 := hc.eq r2
  subst e2
  obtain ⟨ha, _⟩ := I.pin (a, oe) (List.mem_append_left _ List.mem_cons_self)
  obtain ⟨vs, hv⟩ := hf
  obtain ⟨mA, ns, _⟩ := (show ObjOk X.prog X.w H s.heap dd (.xd fs) from I.hok dd _ hd)
  obtain ⟨od, go, _⟩ := lookIn_ns ns
  have cl : (PySem.W.clsIn X.K D).isSome = true := by
    obtain ⟨cd, z, _⟩ := PySem.W.any_some T.hd
    rw [z]
    rfl
  have J : PySem.W.InstAt s.heap a oe D (some od) := by
    obtain ⟨oc, odd, oda, osl⟩ := oe
    obtain ⟨h1, h2⟩ := hz
    dsimp only at h1 h2 hv
    subst h1 h2 hv
    exact ⟨ha, rfl, rfl, go⟩
  exact PySem.W.kia_one (PySem.W.kitx_exc cl T.ga T.gg T.ex T.ca cg ct T.ob) I.kIn J e (fun z => nomatch z) fun tk => ⟨.bl b, H, I.tok tk, rfl, q⟩
end Xl

/-! Tuples that are made in the run, known to have no dict of their own: so their methods can be called. -/
namespace Xt
open PySem PySem.Spec PyProof.Rows L2
/-- a tuple that was made in the run -/
def Tz (H : Hp) (a : Addr) (xs : List V) : Prop := ∃ o : Obj, H a = some (.frz o (.tup xs)) ∧ o.cls = .type "tuple" ∧ o.dict = none
theorem Tz.sq {K : PySem.W.Frag} {H : Hp} {a : Addr} {xs : List V} (h : Tz H a xs) : SqT K H a xs := by
  obtain ⟨o, e, _⟩ := h
  exact .inl (.inr ⟨o, e⟩)
theorem Tz.same {H H' : Hp} {a : Addr} {xs : List V} (h : Tz H a xs) (s : Same H H') : Tz H' a xs := by
  obtain ⟨o, e, c⟩ := h
  exact ⟨o, s _ _ e, c⟩
theorem Tz.ty {K : PySem.W.Frag} {H : Hp} {a : Addr} {xs : List V} (h : Tz H a xs) : TyX K H (.ref a) (.type "tuple") := by
  obtain ⟨o, e, _⟩ := h
  exact .fTuple e
theorem Tz.ne {H : Hp} {a p : Addr} {xs : List V} (h : Tz H a xs) (n : H p = none) : a ≠ p := by
  obtain ⟨o, e, _⟩ := h
  exact ne_of_none e n
/-- the goal behind a new tuple -/
def NewT (xs : List V) (H : Hp) (Q : VK) : Prop := ∀ p o, H p = none → Same H (upd H p o) → Tz (upd H p o) p xs → Q (.ref p) (upd H p o)
section
variable {X : Cx} {pins : List (Addr × Obj)} {σ : L2.St} {H : Hp} {s : Shared} {Q : VK}
theorem lay_new (I : Inv X pins σ H s) {xs : List V} {us : List Value} {n : Nat} (z : xs.length ≤ sizeLine) (r : Vals xs us) (q : NewT xs H Q) :
    EP X pins σ Q (.ref s.heap.objs.size) { s with heap := s.heap.push { cls := .type "tuple", data := .seq us.toArray n } } := by
  have new : H s.heap.objs.size = none := I.hok.fresh (Nat.le_refl _)
  have got : (s.heap.push { cls := .type "tuple", data := .seq us.toArray n }).get? s.heap.objs.size = some { cls := .type "tuple", data := .seq us.toArray n } := Heap.get?_push_size _ rfl
  refine ⟨.ref s.heap.objs.size, upd H s.heap.objs.size (.frz { cls := .type "tuple", data := .seq us.toArray n } (.tup xs)), I.laid (t' := s.toks) (fun b u e => Heap.get?_push_of_some _ e) (Nat.le_refl _) ⟨got, z, us, r, _, got, rfl, n, rfl⟩, rfl, ?_⟩
  refine q _ _ new (fun b x e => ?_) ⟨_, upd_same, rfl, rfl⟩
  rw [upd_ne (ne_of_none e new)]
  exact e
/-- a written tuple -/
def tTupZ (t : TA) : TE := fun σ H Q => t σ H fun xs H1 => xs.length ≤ sizeLine ∧ NewT xs H1 Q
theorem pe_tupZ {es : List Expr} {t : TA} {x1} {pos : Pos} (h : PA X es t) : PE X (.Tuple es x1 pos) (tTupZ t) := by
  refine ⟨fun pins s σ H Q I hq => wpAny_Tuple_spliced (thn (h.run pos pins s σ H _ I hq) fun us s1 ⟨xs, H1, I1, r, z, q⟩ => ⟨by rw [← r.length]; exact z, ?_⟩)⟩
  exact lay_new I1 z r q
/-- tuple(xs), xs a list -/
def rTupOf (K : PySem.W.Frag) : List V → Hp → VK → Prop := fun xs H Q => ∃ p ys, xs = [.ref p] ∧ SqL K H p ys ∧ ys.length ≤ 1000 ∧ NewT ys H Q
theorem call_tupOf : CallR X (.type "tuple") (rTupOf X.K) := by
  intro pins s σ H xs us Q I r h
  obtain ⟨p, ys, rfl, sq, le, q⟩ := h
  obtain ⟨u, rfl, rx⟩ := vals1 r
  cases rx
  obtain ⟨its, rv, pl, z⟩ := I.list sq
  have el := rv.length
  refine call_tuple_list pl.isList (fun h2 keep => ?_) (by simp only [List.size_toArray]; omega)
  exact lay_new (n := 0) (I.kept (t' := s.toks) keep) z rv q
/-- t[a:b], not the whole -/
def rCut (K : PySem.W.Frag) : V → Option Int → Option Int → Hp → VK → Prop := fun x lo hi H Q => ∃ a xs, x = .ref a ∧ SqT K H a xs ∧ ¬ (HT.sIx xs.length 0 lo = 0 ∧ HT.sIx xs.length xs.length hi = xs.length) ∧ NewT (cutV xs lo hi) H Q
theorem sl_cut : SlR X (rCut X.K) := by
  intro pins s σ H x v vl vu lo hi sl Q I rx hs pl pu h
  obtain ⟨a, xs, rfl, sq, part, q⟩ := h
  cases rx
  obtain ⟨its, r, at_, z⟩ := I.tuple sq
  have el : its.toArray.size = xs.length := by rw [List.size_toArray]; exact r.length.symm
  refine ⟨"tuple", _, PyProof.Rows.slot_tuple_getitem.lookup, at_.typeIs, HT.getItem_tuple_cut at_ hs pl pu (by rw [el]; exact part) ?_ (by rw [el]; exact z)⟩
  rw [el]
  exact lay_new I (Nat.le_trans (cutV_length xs lo hi) z) ((r.drop (HT.sIx xs.length 0 lo)).take (HT.sIx xs.length xs.length hi - HT.sIx xs.length 0 lo)) q
/-- t[a:b] of any kind: the whole is t itself; what comes is told by a relation that both give -/
def rCutA (K : PySem.W.Frag) : V → Option Int → Option Int → Hp → VK → Prop := fun x lo hi H Q => ∃ a xs, x = .ref a ∧ Tz H a xs ∧ (cutV xs lo hi = xs → Q (.ref a) H) ∧ NewT (cutV xs lo hi) H Q
theorem cut_whole {xs : List V} {lo hi : Option Int} (h : HT.sIx xs.length 0 lo = 0 ∧ HT.sIx xs.length xs.length hi = xs.length) : cutV xs lo hi = xs := by
  unfold cutV
  rw [h.1, h.2, List.drop_zero, Nat.sub_zero, List.take_of_length_le (Nat.le_refl _)]
theorem sl_cutA : SlR X (rCutA X.K) := by
  intro pins s σ H x v vl vu lo hi sl Q I rx hs pl pu h
  obtain ⟨a, xs, rfl, tz, q1, q2⟩ := h
  by_cases w : HT.sIx xs.length 0 lo = 0 ∧ HT.sIx xs.length xs.length hi = xs.length
  · exact sl_tupA pins s σ H _ v vl vu lo hi sl Q I rx hs pl pu ⟨a, xs, rfl, tz.sq, fun _ => q1 (cut_whole w), fun z => absurd w z⟩
  · exact sl_cut pins s σ H _ v vl vu lo hi sl Q I rx hs pl pu ⟨a, xs, rfl, tz.sq, w, q2⟩
/-- t + u -/
def rSum (K : PySem.W.Frag) : R2 := fun x y H Q => ∃ a b xs ys, x = .ref a ∧ y = .ref b ∧ Tz H a xs ∧ Tz H b ys ∧ xs.length + ys.length ≤ sizeLine ∧ (xs = [] → Q (.ref b) H) ∧ (ys = [] → Q (.ref a) H) ∧ NewT (xs ++ ys) H Q
theorem op_sum : OpR X (binaryOp .Add) (rSum X.K) := by
  intro pins s σ H x y v u Q I rx ry h
  obtain ⟨a, b, xs, ys, rfl, rfl, ta, tb, z, q0, q1, q2⟩ := h
  cases rx
  cases ry
  obtain ⟨its, r1, p1, _⟩ := I.tuple ta.sq
  obtain ⟨its2, r2, p2, _⟩ := I.tuple tb.sq
  by_cases e : xs = []
  · subst e
    cases r1
    exact cat_tup0 p1 p2 ⟨.ref b, H, I, rfl, q0 rfl⟩
  · refine HT.cat_tup p1 p2 (fun w => e (r1.nil_iff.mp w)) (fun w => ⟨.ref a, H, I, rfl, q1 (r2.nil_iff.mp w)⟩) (fun _ => ?_) (by rw [← r1.length, ← r2.length]; exact z)
    exact lay_new I (by rw [List.length_append]; exact z) (r1.append r2) q2
/-- t.m(e, ..), t a tuple made in the run -/
def tTm (r : V → List V → Hp → VK → Prop) (to : TE) (t : TA) : TE := fun σ H Q => to σ H fun x H1 => (∃ a xs, x = .ref a ∧ Tz H1 a xs) ∧ t σ H1 fun ys H2 => r x ys H2 Q
theorem pe_tm {o e : Expr} {es : List Expr} {to : TE} {t : TA} {name : Str} {apos cpos : Pos} {id : String} {r : V → List V → Hp → VK → Prop} (slot : Slot "tuple" name id) (hty : typeOf (.builtin id) = pure (.type "method_descriptor")) (hm : MtR X id r) (ho : PE X o to) (ha : PA X (e :: es) t)
    (hbase : attributeBase o name X.env (eval o X.env) = eval o X.env := by rfl)
    (few : ((backTo cpos (starEach (e :: es) X.env)).all (fun x => !x.1) && (backToKw cpos (keywordEach [] X.env)).all (fun x => x.1.isSome) && decide ((e :: es).length + ([] : List Keyword).length + (if ([] : List Keyword).isEmpty then 0 else 1) < 30)) = true := by rfl)
    (hline : (apos.endLine == cpos.line) = true := by rfl) (hs : starEach (e :: es) X.env = (false, eval e X.env) :: starEach es X.env := by rfl) (hpl : (backTo cpos (starEach es X.env)).any (·.1) = false := by rfl) :
    PE X (.Call (.Attribute o name apos) (e :: es) [] cpos) (tTm r to t) := by
  refine ⟨fun pins s σ H Q I h => wpAny_Call_method_late hbase few hline rfl (thn (ho.run pins s σ H _ I h) fun v s1 ⟨x, H1, I1, r1, ty, q1⟩ => ?_)⟩
  obtain ⟨a, xs, rfl, ob, eo, oc, od⟩ := ty
  cases r1
  have got : s1.heap.get? a = some ob := (show ObjOk X.prog X.w H1 s1.heap a (.frz ob (.tup xs)) from I1.hok a _ eo).1
  refine ⟨"tuple", id, PySem.F.plainAttrs_tuple, slot, hty, ⟨ob, got, oc⟩, fun b eb => by cases eb; exact ⟨ob, got, od⟩, ?_⟩
  have args := ha.run cpos pins s1 σ H1 _ I1 q1
  rw [hs] at args ⊢
  refine Calls.callWith_builtin (by show (false || (backTo cpos (starEach es X.env)).any (·.1)) = false; rw [hpl]; rfl) (Calls.evalArgs_plain (thn args fun us s2 ⟨vs, H2, I2, r2, q2⟩ => ?_))
  exact hm pins s2 σ H2 (.ref a) vs (.ref a) us Q I2 rfl r2 q2
end
end Xt

/-! In an except suite: isinstance of the caught error with a tuple of classes. -/
namespace Xl
open PySem PySem.Spec PyProof.Rows L2 Gy Xt
def rIsT (K : PySem.W.Frag) (a : Addr) (cls : Value) (d : Option Addr) : List V → Hp → VK → Prop := fun xs H Q => ∃ (D dd tp : Addr) (fs : List (Str × V)) (cs : List V) (b : Bool),
  xs = [.ref a, .ref tp] ∧ cls = .ref D ∧ d = some dd ∧ H dd = some (.xd fs) ∧ XCl K D ∧ Tz H tp cs ∧ (∀ its, Vals cs its → PySem.W.kitAny K (.ref D) its = some b) ∧ Q (.bl b) H
theorem call_isT {X : Cx} {a : Addr} {oe : Obj} {cls : Value} {d : Option Addr} {pn : List (Addr × Obj)} (cg : PySem.W.specialIn X.K (.builtin "object.__class__") "__get__" = some (some (.builtin "getset_descriptor.__get__")))
    (ct : PySem.W.takesIn X.K (.builtin "object.__class__") = some true) (hz : Zc cls d oe) (hf : ∃ vs, oe.data = .fields vs) : CallR (X.suite a ((a, oe) :: pn)) (.builtin "isinstance") (rIsT X.K a cls d) := by
  intro pins s σ H xs us Q I r h
  obtain ⟨D, dd, tp, fs, cs, b, rfl, rfl, rfl, hd, T, hc, e, q⟩ := h
  obtain ⟨u1, u2, rfl, r1, r2⟩ := vals2 r
  cases r1
  cases r2
  obtain ⟨its, rv, ⟨o, ho, hcl, n, hda⟩, _⟩ := I.tuple hc.sq
  have e' := e its rv
  obtain ⟨ha, _⟩ := I.pin (a, oe) (List.mem_append_left _ List.mem_cons_self)
  obtain ⟨vs, hv⟩ := hf
  obtain ⟨mA, ns, _⟩ := (show ObjOk X.prog X.w H s.heap dd (.xd fs) from I.hok dd _ hd)
  obtain ⟨od, go, _⟩ := lookIn_ns ns
  have cl : (PySem.W.clsIn X.K D).isSome = true := by
    obtain ⟨cd, z, _⟩ := PySem.W.any_some T.hd
    rw [z]
    rfl
  have J : PySem.W.InstAt s.heap a oe D (some od) := by
    obtain ⟨oc, odd, oda, osl⟩ := oe
    obtain ⟨h1, h2⟩ := hz
    dsimp only at h1 h2 hv
    subst h1 h2 hv
    exact ⟨ha, rfl, rfl, go⟩
  obtain ⟨oc, od2, oda, osl⟩ := o
  dsimp only at hcl hda
  subst hcl hda
  exact PySem.W.kia_tup (its := its) (n := n) (PySem.W.kitx_exc cl T.ga T.gg T.ex T.ca cg ct T.ob) I.kIn J ho e' (fun z => nomatch z) fun tk => ⟨.bl b, H, I.tok tk, rfl, q⟩
end Xl

/-! Data at any depth, with dicts without entries anywhere in it: how it is read and shown. -/
namespace Gy
open PySem PySem.Spec PyProof.Rows L2 Xt
mutual
inductive Dn (K : PySem.W.Frag) (H : Hp) : V → PyData → Prop
  | non : Dn K H .non .none
  | bl (b : Bool) : Dn K H (.bl b) (.bool b)
  | int (i : Int) : Dn K H (.int i) (.int i)
  | str (x : Str) : Dn K H (.str x) (.str x)
  | lst {a : Addr} {xs : List V} {ds : List PyData} (h : H a = some (.lst xs)) (t : Dns K H xs ds) : Dn K H (.ref a) (.list ds)
  | tup {a : Addr} {xs : List V} {ds : List PyData} (h : Tz H a xs) (t : Dns K H xs ds) : Dn K H (.ref a) (.tuple ds)
  | dic {a : Addr} (h : H a = some (.dK [])) : Dn K H (.ref a) (.dict [])
  | dic1 {a : Addr} (h : H a = some (.dK [(Sum.inr "a", .int 1)])) : Dn K H (.ref a) (.dict [(.str "a", .int 1)])
inductive Dns (K : PySem.W.Frag) (H : Hp) : List V → List PyData → Prop
  | nil : Dns K H [] []
  | cons {v : V} {vs : List V} {d : PyData} {ds : List PyData} (h : Dn K H v d) (t : Dns K H vs ds) : Dns K H (v :: vs) (d :: ds)
end
mutual
theorem Dn.same {K : PySem.W.Frag} {H H' : Hp} (s : Same H H') : ∀ {v : V} {d : PyData}, Dn K H v d → Dn K H' v d
  | _, _, .non => .non
  | _, _, .bl b => .bl b
  | _, _, .int i => .int i
  | _, _, .str x => .str x
  | _, _, .lst h a => .lst (s _ _ h) (Dns.same s a)
  | _, _, .tup h a => .tup (h.same s) (Dns.same s a)
  | _, _, .dic h => .dic (s _ _ h)
  | _, _, .dic1 h => .dic1 (s _ _ h)
theorem Dns.same {K : PySem.W.Frag} {H H' : Hp} (s : Same H H') : ∀ {vs : List V} {ds : List PyData}, Dns K H vs ds → Dns K H' vs ds
  | _, _, .nil => .nil
  | _, _, .cons h t => .cons (Dn.same s h) (Dns.same s t)
end
/-- a dict without entries, as the model has it -/
theorem dict_at {X : Cx} {pins : List (Addr × Obj)} {σ : L2.St} {H : Hp} {s : Shared} (I : Inv X pins σ H s) {a : Addr} (h : H a = some (.dK [])) :
    (a == sysModules) = false ∧ ∃ o es ep, s.heap.get? a = some o ∧ o.cls = .type "dict" ∧ o.data = .dict es ep ∧ es.toList = [] ∧ Reads s.heap (.ref a) (.dict []) [a] := by
  obtain ⟨_, ns, vs, kv, o, es, ep, g1, ex, g2, ks, ps, _⟩ := (show ObjOk X.prog X.w H s.heap a (.dK []) from I.hok a _ h)
  cases kv
  have e : es.toList = [] := by
    generalize es.toList = l at ps
    cases ps
    rfl
  exact ⟨ns, o, es, ep, g1, ex.1, g2, e, .dict g1 ex.1 g2 (as := []) (bs := []) (by rw [e]; exact .nil) (by rw [e]; exact .nil)⟩
/-- a dict with one entry -/
theorem dict_at1 {X : Cx} {pins : List (Addr × Obj)} {σ : L2.St} {H : Hp} {s : Shared} (I : Inv X pins σ H s) {a : Addr} (h : H a = some (.dK [(Sum.inr "a", .int 1)])) :
    (a == sysModules) = false ∧ ∃ o es ep e t1 t2, s.heap.get? a = some o ∧ o.cls = .type "dict" ∧ o.data = .dict es ep ∧ es.toList = [e] ∧ e.key = .str "a" t1 ∧ e.val = .int 1 t2 ∧ Reads s.heap (.ref a) (.dict [(.str "a", .int 1)]) [a] := by
  obtain ⟨_, ns, vs, kv, o, es, ep, g1, ex, g2, ks, ps, _⟩ := (show ObjOk X.prog X.w H s.heap a (.dK [(Sum.inr "a", .int 1)]) from I.hok a _ h)
  obtain ⟨e, t1, t2, e0, e1, e2⟩ : ∃ e t1 t2, es.toList = [e] ∧ e.key = .str "a" t1 ∧ e.val = .int 1 t2 := by
    generalize es.toList = l at ps
    cases kv with
    | cons hk hr =>
      cases hr
      obtain ⟨h1, h2⟩ := hk
      cases ps with
      | cons p1 p2 p3 =>
        cases p3
        rw [← h1] at p1
        rcases keyIs_shape (show keyIs (Sum.inr "a") _ = true from p1) with ⟨j, t, q, _⟩ | ⟨x, t, q, q2⟩
        · cases q
        · cases q
          obtain ⟨t2, h2⟩ := h2
          exact ⟨_, t, t2, rfl, q2, p2.trans h2⟩
  refine ⟨ns, o, es, ep, e, t1, t2, g1, ex.1, g2, e0, e1, e2, ?_⟩
  have q := Reads.dict g1 ex.1 g2 (kvs := [(.str "a", .int 1)]) (as := [] ++ []) (bs := [] ++ []) (by rw [e0, List.map_singleton, e1]; exact .cons (.str "a" t1) .nil) (by rw [e0, List.map_singleton, e2]; exact .cons (.int 1 t2) .nil)
  exact q
section
variable {X : Cx} {pins : List (Addr × Obj)} {σ : L2.St} {H : Hp} {s : Shared}
mutual
theorem Dn.shows (I : Inv X pins σ H s) : ∀ {v : V} {d : PyData} {u : Value}, Dn X.K H v d → RelV v u → d.showable = true → d.shown.length ≤ sizeLine →
    ∃ as bs, Reads s.heap u d as ∧ ReadAtMost s.heap d.depth bs ∧ ReprK X.prog X.w bs s.heap d.depth u d.shown
  | _, _, _, .non, r, hs, hz => by
    cases r
    obtain ⟨bs, h1, h2⟩ := ReprK.of_reads (prog := X.prog) (w := X.w) (h₀ := s.heap) Reads.none hs (fun z => nomatch z) hz
    exact ⟨_, bs, .none, h1, h2⟩
  | _, _, _, .bl b, r, hs, hz => by
    cases r
    obtain ⟨bs, h1, h2⟩ := ReprK.of_reads (prog := X.prog) (w := X.w) (h₀ := s.heap) (Reads.bool b) hs (fun z => nomatch z) hz
    exact ⟨_, bs, .bool b, h1, h2⟩
  | _, _, _, .int i, r, hs, hz => by
    obtain ⟨t, rfl⟩ := r
    obtain ⟨bs, h1, h2⟩ := ReprK.of_reads (prog := X.prog) (w := X.w) (h₀ := s.heap) (Reads.int i t) hs (fun z => nomatch z) hz
    exact ⟨_, bs, .int i t, h1, h2⟩
  | _, _, _, .str x, r, hs, hz => by
    obtain ⟨t, rfl⟩ := r
    obtain ⟨bs, h1, h2⟩ := ReprK.of_reads (prog := X.prog) (w := X.w) (h₀ := s.heap) (Reads.str x t) hs (fun z => nomatch z) hz
    exact ⟨_, bs, .str x t, h1, h2⟩
  | _, _, _, .lst (a := a) (ds := ds) h ha, r, hs, hz => by
    cases r
    have hz' : (listText (PyData.shownAll ds)).length ≤ sizeLine := by simpa only [PyData.shown] using hz
    obtain ⟨its, rv, ⟨o, n, ho, hc, _, hd⟩, _⟩ := I.list (SqL.of h)
    obtain ⟨as, bs, hr, hb, hk⟩ := Dns.shows I ha rv (by simpa [PyData.showable] using hs) (fun t ht => Nat.le_trans (listText_mem_le ht) hz')
    have q : Reads s.heap (.ref a) (.list ds) _ := .list ho hc hd hr
    have hna : a ∉ bs := not_mem_of_deeper q (by simp only [PyData.depth]; omega) hb
    refine ⟨_, a :: bs, q, ReadAtMost.cons q (by simp only [PyData.depth]; omega) hb, ?_⟩
    simp only [PyData.depth, PyData.shown]
    cases its with
    | nil =>
      cases hr
      simp only [PyData.shownAll, listText_nil]
      exact ReprK.listEmpty ho hc hd
    | cons x l => exact ReprK.list ho hc hd hna (by simpa using hk.length_eq) (fun i y e => hk.item i y (by simpa using e))
  | _, _, _, .tup (a := a) (ds := ds) h ha, r, hs, hz => by
    cases r
    have hz' : (tupleText (PyData.shownAll ds)).length ≤ sizeLine := by simpa only [PyData.shown] using hz
    obtain ⟨its, rv, ⟨o, ho, hc, n, hd⟩, _⟩ := I.tuple h.sq
    obtain ⟨as, bs, hr, hb, hk⟩ := Dns.shows I ha rv (by simpa [PyData.showable] using hs) (fun t ht => Nat.le_trans (tupleText_mem_le ht) hz')
    have q : Reads s.heap (.ref a) (.tuple ds) _ := .tuple ho hc hd hr
    have hna : a ∉ bs := not_mem_of_deeper q (by simp only [PyData.depth]; omega) hb
    refine ⟨_, a :: bs, q, ReadAtMost.cons q (by simp only [PyData.depth]; omega) hb, ?_⟩
    simp only [PyData.depth, PyData.shown]
    exact ReprK.tuple ho hc hd hna hk
  | _, _, _, .dic (a := a) h, r, hs, hz => by
    cases r
    obtain ⟨ns, o, es, ep, ho, hc, hd, he, q⟩ := dict_at I h
    refine ⟨_, [a], q, ReadAtMost.cons q (n := 0) (Nat.zero_le _) (fun _ z => nomatch z), ?_⟩
    exact ReprK.dict (as := []) (d := 0) (ps := []) ho hc hd ns (fun z => nomatch z) (by rw [he]; exact .nil)
  | _, _, _, .dic1 (a := a) h, r, hs, hz => by
    cases r
    obtain ⟨ns, o, es, ep, e, t1, t2, ho, hc, hd, he, e1, e2, q⟩ := dict_at1 I h
    obtain ⟨bs, h1, h2⟩ := ReprK.of_reads (prog := X.prog) (w := X.w) (h₀ := s.heap) q hs (fun _ z => by
      rw [List.mem_singleton] at z
      rw [← z] at ns
      cases ns) hz
    exact ⟨_, bs, q, h1, h2⟩
theorem Dns.shows (I : Inv X pins σ H s) : ∀ {vs : List V} {ds : List PyData} {us : List Value}, Dns X.K H vs ds → Vals vs us → PyData.showableAll ds = true → (∀ t ∈ PyData.shownAll ds, t.length ≤ sizeLine) →
    ∃ as bs, ReadsAll s.heap us ds as ∧ ReadAtMost s.heap (PyData.depthAll ds) bs ∧ ReprAllK X.prog X.w bs s.heap (PyData.depthAll ds) us (PyData.shownAll ds)
  | _, _, _, .nil, .nil, _, _ => ⟨[], [], .nil, (fun _ h => nomatch h), .nil⟩
  | _, _, _, .cons (d := d) (ds := ds) h hs, .cons r rs, sh, len => by
    have sh2 : d.showable = true ∧ PyData.showableAll ds = true := by simpa only [PyData.showableAll, Bool.and_eq_true] using sh
    obtain ⟨as, b1, rd, m1, k1⟩ := Dn.shows I h r sh2.1 (len _ List.mem_cons_self)
    obtain ⟨as2, b2, rd2, m2, k2⟩ := Dns.shows I hs rs sh2.2 fun t ht => len t (List.mem_cons_of_mem _ ht)
    have l1 : d.depth ≤ PyData.depthAll (d :: ds) := Nat.le_max_left _ _
    have l2 : PyData.depthAll ds ≤ PyData.depthAll (d :: ds) := Nat.le_max_right _ _
    refine ⟨as ++ as2, b1 ++ b2, .cons rd rd2, (m1.mono l1).append (m2.mono l2), ?_⟩
    exact .cons ((k1.more fun b hb => List.mem_append_left _ hb).level_le l1) (k2.more_le (fun b hb => List.mem_append_right _ hb) l2)
end
end
/-- repr of any such value -/
def rReprN (K : PySem.W.Frag) : List V → Hp → VK → Prop := fun xs H Q => ∃ v d, xs = [v] ∧ Dn K H v d ∧ d.showable = true ∧ d.depth ≤ 60 ∧ d.shown.length ≤ sizeLine ∧ Q (.str d.shown) H
theorem repr_dn {X : Cx} (hg : X.A.guards = some []) (hu : X.A.units + 70 < cLine) : CallR X (.builtin "repr") (rReprN X.K) := by
  intro pins s σ H xs us Q I r h
  obtain ⟨v, d, rfl, dn, sh, dp, len, q⟩ := h
  obtain ⟨u, rfl, ru⟩ := vals1 r
  have fin : ∀ (h' : Heap) (x : Tok) (tk : Nat), (∀ b o, s.heap.get? b = some o → h'.get? b = some o) → ∃ y H', Inv X pins σ H' { s with heap := h', toks := tk } ∧ RelV y (.str d.shown x) ∧ Q y H' := fun h' x tk hk => ⟨.str d.shown, H, I.kept hk, ⟨x, rfl⟩, q⟩
  cases dn with
  | non =>
    cases ru
    exact P.repr_of_none ⟨.str "None", H, I.tok _, ⟨_, rfl⟩, q⟩
  | bl b =>
    cases ru
    exact P.repr_of_bool ⟨.str (PyData.shown (.bool b)), H, I.tok _, ⟨_, by cases b <;> rfl⟩, q⟩
  | int i =>
    obtain ⟨t, rfl⟩ := ru
    exact P.repr_of_int (by simpa [PyData.showable] using sh) ⟨.str (toString i), H, I.tok _, ⟨_, rfl⟩, q⟩
  | str x =>
    obtain ⟨t, rfl⟩ := ru
    exact P.repr_of_str ⟨.str (reprText x), H, I.tok _, ⟨_, rfl⟩, q⟩ len
  | @lst a ys ds h ha =>
    cases ru
    have len' : (listText (PyData.shownAll ds)).length ≤ sizeLine := by simpa only [PyData.shown] using len
    obtain ⟨its, rv, ⟨o, n, g1, g2, _, g3⟩, _⟩ := I.list (SqL.of h)
    obtain ⟨as, bs, rd, at_, sw⟩ := Dns.shows I ha rv (by simpa [PyData.showable] using sh) fun t ht => Nat.le_trans (listText_mem_le ht) len'
    have out : a ∉ bs := not_mem_of_deeper (.list g1 g2 g3 rd) (by simp only [PyData.depth]; omega) at_
    refine call_repr_slot (T := "list") (idr := "list.__repr__") (by omega) ⟨o, g1, g2⟩ F.slot_list_repr.toG ?_
    match its, rv, g3, rd, sw with
    | [], rv, g3, rd, _ =>
      cases rd
      exact call_list_repr_empty ⟨o, g1, g2⟩ g1 g3 ⟨_, _, rfl, .str "[]", H, I.tok _, ⟨_, rfl⟩, by simpa only [PyData.shown, PyData.shownAll, listText_nil] using q⟩
    | x :: rest, _, g3, _, sw =>
      refine call_list_reprK g1 g2 g3 out (by simpa using sw.length_eq) (fun i y e => sw.item i y (by simpa using e)) (g := []) hg (fun b _ => Clear.nil b) (d := PyData.depthAll ds) ?_ (fun _ _ e => e) (fun h' u tk hk => ⟨_, _, rfl, fin h' u tk hk⟩) len'
      simp only [PyData.depth] at dp
      show X.A.units + 1 + (PyData.depthAll ds + 1) < cLine
      omega
  | @tup a ys ds h ha =>
    cases ru
    have len' : (tupleText (PyData.shownAll ds)).length ≤ sizeLine := by simpa only [PyData.shown] using len
    obtain ⟨its, rv, ⟨o, g1, g2, n, g3⟩, _⟩ := I.tuple h.sq
    obtain ⟨as, bs, rd, at_, sw⟩ := Dns.shows I ha rv (by simpa [PyData.showable] using sh) fun t ht => Nat.le_trans (tupleText_mem_le ht) len'
    have out : a ∉ bs := not_mem_of_deeper (.tuple g1 g2 g3 rd) (by simp only [PyData.depth]; omega) at_
    refine call_repr_slot (T := "tuple") (idr := "tuple.__repr__") (by omega) ⟨o, g1, g2⟩ F.slot_tuple_repr ?_
    refine call_tuple_reprK g1 g2 g3 out sw (g := []) hg (fun b _ => Clear.nil b) (d := PyData.depthAll ds) ?_ (fun _ _ e => e) (fun h' u tk hk => ⟨_, _, rfl, fin h' u tk hk⟩) len'
    simp only [PyData.depth] at dp
    show X.A.units + 1 + (PyData.depthAll ds + 1) < cLine
    omega
  | @dic a h =>
    cases ru
    obtain ⟨ns, o, es, ep, g1, g2, g3, he, _⟩ := dict_at I h
    refine call_repr_slot (T := "dict") (idr := "dict.__repr__") (by omega) ⟨o, g1, g2⟩ F.slot_dict_repr ?_
    refine call_dict_reprK (as := []) (d := 0) (ps := []) g1 g2 g3 ns (fun z => nomatch z) (by rw [he]; exact .nil) (g := []) hg (fun b _ => Clear.nil b) ?_ (fun _ _ e => e) (fun h' u tk hk => ⟨_, _, rfl, fin h' u tk hk⟩) len
    show X.A.units + 1 + (0 + 1) < cLine
    omega
  | @dic1 a h =>
    cases ru
    obtain ⟨ns, o, es, ep, e, t1, t2, g1, g2, g3, he, e1, e2, rd⟩ := dict_at1 I h
    obtain ⟨b1, m1, k1⟩ := ReprK.of_reads (prog := X.prog) (w := X.w) (h₀ := s.heap) (Reads.str "a" t1) rfl (fun z => nomatch z) (by decide +kernel)
    obtain ⟨b2, m2, k2⟩ := ReprK.of_reads (prog := X.prog) (w := X.w) (h₀ := s.heap) (Reads.int 1 t2) (by decide +kernel) (fun z => nomatch z) (by decide +kernel)
    have out : a ∉ b1 ++ b2 := not_mem_of_deeper (n := 0) rd (by decide) (m1.append m2)
    refine call_repr_slot (T := "dict") (idr := "dict.__repr__") (by omega) ⟨o, g1, g2⟩ F.slot_dict_repr ?_
    refine call_dict_reprK (as := b1 ++ b2) (d := 0) (ps := [reprText "a" ++ ": " ++ PyData.shown (.int 1)]) g1 g2 g3 ns out (by rw [he]; exact .cons (by rw [e1]; exact k1.more fun b hb => List.mem_append_left _ hb) (by rw [e2]; exact k2.more fun b hb => List.mem_append_right _ hb) .nil) (g := []) hg (fun b _ => Clear.nil b) ?_ (fun _ _ e => e) (fun h' u tk hk => ⟨_, _, rfl, fin h' u tk hk⟩) len
    show X.A.units + 1 + (0 + 1) < cLine
    omega
end Gy

/-! len(set(t)) of a tuple of texts, of any number of them. -/
namespace Xs
open PySem PySem.Spec PyProof.Rows L2
/-- how many different ones the first i are -/
def numd (xs : List Str) : Nat → Nat
  | 0 => 0
  | i + 1 => if xs.getD i Str.empty ∈ xs.take i then numd xs i else numd xs i + 1
theorem numd_le (xs : List Str) : ∀ i, numd xs i ≤ i
  | 0 => Nat.le_refl _
  | i + 1 => by
    have := numd_le xs i
    unfold numd
    split <;> omega
theorem numd_full (xs : List Str) : ∀ i, i ≤ xs.length → (numd xs i = i ↔ (xs.take i).Nodup)
  | 0, _ => by simp [numd]
  | i + 1, hi => by
    have lt : i < xs.length := hi
    have ih := numd_full xs i (Nat.le_of_lt lt)
    have le := numd_le xs i
    have e : xs.getD i Str.empty = xs[i] := by rw [List.getD_eq_getElem?_getD, List.getElem?_eq_getElem lt]; rfl
    have t : xs.take (i + 1) = xs.take i ++ [xs[i]] := by rw [List.take_add_one, List.getElem?_eq_getElem lt]; rfl
    unfold numd
    rw [e, t]
    by_cases m : xs[i] ∈ xs.take i
    · rw [if_pos m]
      refine ⟨fun z => by omega, fun z => ?_⟩
      rw [List.nodup_append] at z
      exact absurd rfl (z.2.2 _ m _ List.mem_cons_self)
    · rw [if_neg m]
      refine ⟨fun z => ?_, fun z => ?_⟩
      · rw [List.nodup_append]
        refine ⟨ih.mp (by omega), by simp, fun a ha b hb ab => ?_⟩
        rw [List.mem_singleton.mp hb] at ab
        exact m (ab ▸ ha)
      · rw [List.nodup_append] at z
        rw [ih.mpr z.1]
section
variable {P : Program} {w : World} {A : Around} {R : Result → Shared → Prop} {J : Addr} {fp wr : List Addr} {G : Array GenState → Array GenState → Prop} {n : Nat} {Y : Nat → Value → Prop} {Z : Nat → Shared → Prop}
/-- the set takes text after text -/
theorem take_texts (W : WalksS P w A.in1 J fp wr G n Y Z) (S : Addr) (out : S ∉ fp) (xs : List Str) (len : xs.length = n) (room : n + 1 < scanBound) (val : ∀ i v, Y i v → ∃ t, v = .str (xs.getD i Str.empty) t) :
    ∀ (k i : Nat) (s : Shared), n - i = k → i ≤ n → Z i s → s.heap.SetOf (strKind P w) S (fun x => decide (x ∈ xs.take i)) (numd xs i) →
      (∀ s2, Moved (S :: wr) G s s2 → s2.heap.SetOf (strKind P w) S (fun x => decide (x ∈ xs.take n)) (numd xs n) → R (.ok (.ret .none)) s2) →
      codeAny (model P w) A (.builtin "set.update.loop" ⟨[.ref S, .ref J], []⟩) R s := by
  have out2 : S ∉ wr := fun h => out (W.sub _ h)
  have more : ∀ b ∈ wr, b ∈ S :: wr := fun b hb => List.mem_cons_of_mem _ hb
  intro k
  induction k with
  | zero =>
    intro i s ek le z hS fin
    obtain rfl : i = n := by omega
    refine codeAny_builtin PyProof.Rows.F.entry_set_update_loop ?_; rw [Around.under_plainId PyProof.Rows.F.plain_set_update_loop _]
    show wpAny _ A.in1 (pyNext (.ref J) >>= _) _ _ s
    refine wpAny_bind (W.done s _ _ z fun s2 mv => ?_)
    obtain ⟨o, es, ep, t, ho, rest⟩ := hS
    exact wpAny_pure (fin s2 (mv.mono more) ⟨o, es, ep, t, mv.heap S _ out2 ho, rest⟩)
  | succ k ih =>
    intro i s ek le z hS fin
    have lt : i < n := by omega
    refine codeAny_builtin PyProof.Rows.F.entry_set_update_loop ?_; rw [Around.under_plainId PyProof.Rows.F.plain_set_update_loop _]
    show wpAny _ A.in1 (pyNext (.ref J) >>= _) _ _ s
    refine wpAny_bind (W.item i s _ _ lt z fun v s2 hY z2 mv => ?_)
    obtain ⟨t, rfl⟩ := val i v hY
    have hS2 : s2.heap.SetOf (strKind P w) S (fun x => decide (x ∈ xs.take i)) (numd xs i) := by
      obtain ⟨o, es, ep, tb, ho, rest⟩ := hS
      exact ⟨o, es, ep, tb, mv.heap S _ out2 ho, rest⟩
    show wpAny _ A.in1 (holding [Value.str (xs.getD i Str.empty) t] (setAdd S (.str (xs.getD i Str.empty) t)) >>= _) _ _ s2
    refine wpAny_bind (wpAny_holding ?_); unfold setAdd; refine wpAny_holding ?_
    refine wpAny_bind ((strKind P w).pyHash (k := xs.getD i Str.empty) (strKind_is _ _ _ _) ?_)
    have nl := numd_le xs i
    refine wpAny_setAddHashed_of (knd := strKind P w) (s := { s2 with toks := s2.toks + 1 }) (strKind_is _ _ _ _) rfl hS2 (by omega) fun h3 sb hS3 => ?_
    have hS4 : h3.SetOf (strKind P w) S (fun x => decide (x ∈ xs.take (i + 1))) (numd xs (i + 1)) := by
      have lt' : i < xs.length := by omega
      have e : xs.getD i Str.empty = xs[i] := by rw [List.getD_eq_getElem?_getD, List.getElem?_eq_getElem lt']; rfl
      have t : xs.take (i + 1) = xs.take i ++ [xs[i]] := by rw [List.take_add_one, List.getElem?_eq_getElem lt']; rfl
      refine SetOf_congr hS3 (fun x => ?_) ?_
      · show (decide (x ∈ xs.take i) || decide (x = xs.getD i Str.empty)) = decide (x ∈ xs.take (i + 1))
        rw [e, ← Bool.decide_or]
        congr 1
        rw [t, List.mem_append, List.mem_singleton]
      · show _ = if xs.getD i Str.empty ∈ xs.take i then numd xs i else numd xs i + 1
        simp only [decide_eq_true_eq]
    refine wpAny_pure ⟨plainId_quiet PyProof.Rows.F.plain_set_update_loop _, ih (i + 1) _ (by omega) lt (W.frame _ s2 _ _ z2 (Nat.le_succ _) fun b hb o e => ?_) hS4 fun s4 mv4 hS5 => ?_⟩
    · rw [sb.2 b (fun h : b = S => out (h ▸ hb))]
      exact e
    · refine fin s4 (Moved.trans W.gtrans ((mv.mono more).then_heap (Nat.le_succ _) fun b o hb e => ?_) mv4) hS5
      rw [sb.2 b (fun h : b = S => hb (h ▸ List.mem_cons_self))]
      exact e
end
/-- the set before anything is in it -/
def set0 (b : Bool) : Obj := { cls := .type "set", dict := none, data := .set #[] 0 (.fresh 0 0 b) }
section
variable {P : Program} {w : World} {A : Around} {E : Value → Shared → Prop} {s : Shared}
set_option maxHeartbeats 3200000 in
theorem set_of_texts {l : Addr} {its : Array Value} {xs : List Str} {Q : Value → Shared → Prop} (calm : A.handled = none) (at_ : s.heap.IsTuple l its) (are : StrsAre its.toList xs) (room : xs.length + 1 < scanBound)
    (fin : ∀ (h2 : Heap) (tk : Nat), h2.SetOf (strKind P w) s.heap.objs.size (fun x => decide (x ∈ xs)) (numd xs xs.length) → (∀ b o, b < s.heap.objs.size → s.heap.get? b = some o → h2.get? b = some o) → Q (.ref s.heap.objs.size) { s with heap := h2, toks := tk }) :
    wpAny (model P w) A (call (.type "set") [.ref l]) Q E s := by
  have sz : xs.length = its.size := by rw [← StrsAre.len_eq are, Array.length_toList]
  obtain ⟨_, _, m0⟩ := PySem.F.called_set.mro
  have m1 := PySem.F.called_set.made; have m2 := PySem.F.called_set.sub
  refine wpAny_call (codeAny_of_tree ?_); show wpAny _ _ (callAny (.type "set") _) _ _ _
  refine wpAny_pure ⟨Code.quiet_builtin _ (by decide +kernel), codeAny_builtin PySem.F.entry_type_call ?_⟩; rw [Around.under_plain (weight_type_call_type "set" [.ref l] []) rfl]
  have m3 := PySem.F.called_set.notType; have m4 := PySem.F.called_set.canCreate; have m5 := PySem.F.typeCall_set_1 (.ref l)
  repeat (any_goals (first | assumption | wp_step))
  refine codeAny_mono (code_set_new_1 (.ref l) (E := E) (Q₁ := fun ob s1 => ∃ led : Bool, ob = .ref s.heap.objs.size ∧ s1 = { s with heap := s.heap.push (set0 led) }) fun led => ⟨led, rfl, rfl⟩) fun r s1 hr => ?_
  rcases r with e | (_ | _ | _ | ob)
  · exact hr
  · exact hr.elim
  · exact hr.elim
  · exact hr.elim
  obtain ⟨led, rfl, rfl⟩ := hr
  have got : (s.heap.push (set0 led)).get? s.heap.objs.size = some (set0 led) := Heap.get?_push_size _ rfl
  have ty : Shared.TypeIs { s with heap := s.heap.push (set0 led) } (.ref s.heap.objs.size) "set" := ⟨_, got, rfl⟩
  have m6 := PySem.F.called_set.init.lookup; have m7 := PySem.F.called_set.init.bind (.ref s.heap.objs.size)
  repeat (any_goals (first | assumption | wp_step))
  refine codeAny_mono (codeAny_call_builtin (R := wants (fun r s2 => r = .none ∧ ∃ h2 tk, s2 = { s with heap := h2, toks := tk } ∧ h2.SetOf (strKind P w) s.heap.objs.size (fun x => decide (x ∈ xs)) (numd xs xs.length) ∧
      (∀ b o, b < s.heap.objs.size → s.heap.get? b = some o → h2.get? b = some o)) E) PySem.F.called_set.init.plain PySem.F.entry_set_init (check_set_init_1 ty ?_)) fun r2 s2 hr2 => ?_
  · obtain ⟨ol, go, co, nl, dl⟩ := at_
    obtain ⟨ocls, odict, odata, oslots⟩ := ol
    simp only at co dl
    subst co dl
    have go2 : (s.heap.push (set0 led)).get? l = some { cls := .type "tuple", dict := odict, data := .seq its nl, slots := oslots } := Heap.get?_push_of_some _ go
    have m8 := PySem.F.sub_tuple_set; have m9 := PySem.F.sub_tuple_frozenset
    have m10 : (Value.type "tuple" == Value.type "dict") = false := by decide
    have at2 : (s.heap.push (set0 led)).IsTuple l its := ⟨_, go2, rfl, nl, rfl⟩
    unfold Builtin.«set.__init__» noKeywords Builtin.Frozenset.updateFrom; generalize ePI : pyIter = PI
    wp_walk
    subst ePI
    refine wpAny_pyIter_tuple at2 (wpAny_bind (wpAny_runValue ?_))
    have low : l < s.heap.objs.size := Heap.lt_size go
    have calm3 : A.in1.in1.in1.handled = none := by simp [calm]
    have far : l ≠ (s.heap.push (set0 led)).objs.size := by rw [Heap.size_push]; exact Nat.ne_of_lt (Nat.lt_succ_of_lt low)
    have out : s.heap.objs.size ∉ [(s.heap.push (set0 led)).objs.size, l] := by
      rw [Heap.size_push]
      simp only [List.mem_cons, List.not_mem_nil, or_false, not_or]
      exact ⟨Nat.ne_of_lt (Nat.lt_succ_self _), Nat.ne_of_gt low⟩
    refine take_texts ((Walks.tuple calm3 _ l far its).toS) s.heap.objs.size out xs sz (by rw [← sz]; exact room) (fun i v hv => SS.strs_at are i v (by rw [Array.getElem?_toList]; exact hv)) (its.size - 0) 0 _ (by omega) (Nat.zero_le _)
      ⟨⟨_, Heap.get?_push_size _ rfl, rfl, rfl⟩, at2.push _⟩ ?first ?last
    case first =>
      have got2 : ((s.heap.push (set0 led)).push { cls := .type "tuple_iterator", data := .fields #[.ref l, .int 0 0] }).get? s.heap.objs.size = some (set0 led) := Heap.get?_push_of_some _ got
      exact SetOf_congr ((setObjOf_fresh (knd := strKind P w) led).setOf got2 (by unfold scanBound; omega)) (fun _ => rfl) rfl
    case last =>
      intro s2 mv hS
      obtain ⟨h2, g2, d2, tk2, os2⟩ := s2
      obtain rfl : g2 = s.gens := mv.gens
      obtain rfl : d2 = s.drawn := mv.drawn
      obtain rfl : os2 = s.os := mv.os
      rw [← sz, List.take_of_length_le (Nat.le_refl _)] at hS
      show wpAny _ _ _ _ _ _
      refine wpAny_pure (wpAny_pure ⟨rfl, h2, tk2, rfl, hS, fun b o lb e => ?_⟩)
      refine mv.heap b o ?_ (Heap.get?_push_of_some _ (Heap.get?_push_of_some _ e))
      rw [Heap.size_push]
      simp only [List.mem_cons, List.not_mem_nil, or_false, not_or]
      exact ⟨Nat.ne_of_lt lb, Nat.ne_of_lt (Nat.lt_succ_of_lt lb)⟩
  · rcases r2 with e | (_ | _ | _ | r)
    · exact hr2
    · exact hr2.elim
    · exact hr2.elim
    · exact hr2.elim
    obtain ⟨rfl, h2, tk, rfl, hS, keep⟩ := hr2
    repeat (any_goals (first | assumption | wp_step))
    exact fin _ _ hS keep
end
section
variable {X : Cx}
/-- len(set(t)), t a tuple of texts -/
def tLenTexts (K : PySem.W.Frag) (ta : TE) : TE := fun σ H Q => ta σ H fun x H1 => ∃ (l : Addr) (xs : List Str), x = .ref l ∧ SqT K H1 l (xs.map V.str) ∧ xs.length ≤ 4000 ∧ Q (.int (numd xs xs.length : Nat)) H1
theorem pe_lenTexts {a : Expr} {ta : TE} {p p2 q pos : Pos} (hg : Gl X "len") (hm : X.mg "len" = none) (hg2 : Gl X "set") (hm2 : X.mg "set" = none) (ha : PE X a ta) (calm : X.calm = true := by rfl)
    (na : starEach [a] X.env = (false, eval a X.env) :: starEach [] X.env := by rfl) : PE X (.Call (.Name "len" p) [.Call (.Name "set" p2) [a] [] q] [] pos) (tLenTexts X.K ta) := by
  refine ⟨fun pins s σ H Q I h => Call_ (ld_blt I hg hm boot_len ?_)⟩
  refine PyProof.Rows.callWith_builtin1 (PyProof.Rows.args_cons (Call_ (ld_blt I hg2 hm2 boot_set ?_)) rfl) rfl rfl
  refine PyProof.Rows.callWith_type1 (PyProof.Rows.args_cons (thn (ha.run pins s σ H _ I h) fun v s1 ⟨x, H1, I1, r1, q1⟩ => PyProof.Rows.args_nil ?_) na) na rfl
  obtain ⟨l, xs, rfl, sq, le, q1⟩ := q1
  cases r1
  obtain ⟨its, r, pl, _⟩ := I1.tuple sq
  refine set_of_texts (I1.ok.hd calm) pl (by simpa using strsAre_of r) (by unfold scanBound; omega) fun h2 tk hS keep => ?_
  refine PyProof.Rows.args_nil ?_
  obtain ⟨o, es, ep, t, ho, ex, hd, _, _, _, hf, hn⟩ := hS
  have I2 : Inv X pins σ H1 { s1 with heap := h2, toks := tk } := I1.kept fun b o e => keep b o (Heap.lt_size e) e
  have nl := numd_le xs xs.length
  exact call_len_set ho ex hd hf (by rw [hn]; omega) ⟨.int (numd xs xs.length : Nat), H1, I2.tok _, ⟨_, by rw [hn]⟩, q1⟩
end
end Xs

/-! A tuple turned about: t[::-1]. Tuples, and any value, compared. -/
namespace Xt
open PySem PySem.Spec PyProof.Rows L2 Gy
theorem back_ends (n : Nat) : Builtin.Slice.sliceAdjust none none (-1) (n : Int) = ((n : Int) - 1, -1) := rfl
theorem back_places (n : Nat) : Builtin.Slice.slicePlaces ((n : Int) - 1) (-1) (-1) = n := by
  unfold Builtin.Slice.slicePlaces
  rw [if_neg (by decide)]
  by_cases h : n = 0
  · subst h
    rfl
  · rw [if_pos (by omega), show (- -1 : Int) = 1 from rfl, Int.ediv_one]
    omega
theorem back_pick (xs : Array Value) : ((List.range xs.size).filterMap fun (m : Nat) => xs[(((xs.size : Int) - 1) + (m : Int) * (-1)).toNat]?).toArray = xs.toList.reverse.toArray := by
  congr 1
  refine List.ext_getElem? fun i => ?_
  have key : ∀ k, k ≤ xs.size → (List.range k).filterMap (fun (m : Nat) => xs[(((xs.size : Int) - 1) + (m : Int) * (-1)).toNat]?) = xs.toList.reverse.take k := by
    intro k
    induction k with
    | zero => intro _; rfl
    | succ k ih =>
      intro hk
      have lt : xs.size - 1 - k < xs.size := by omega
      have e : (((xs.size : Int) - 1) + (k : Int) * (-1)).toNat = xs.size - 1 - k := by omega
      have g : xs.toList.reverse[k]? = some xs[xs.size - 1 - k] := by
        have l : k < xs.toList.reverse.length := by
          rw [List.length_reverse, Array.length_toList]
          omega
        rw [List.getElem?_eq_getElem l, List.getElem_reverse]
        simp
      rw [List.range_succ, List.filterMap_append, ih (by omega), List.take_add_one, g]
      congr 1
      rw [List.filterMap_cons_some (b := xs[xs.size - 1 - k]) (by rw [e]; exact Array.getElem?_eq_getElem lt)]
      rfl
  rw [key xs.size (Nat.le_refl _), List.take_of_length_le (by rw [List.length_reverse, Array.length_toList]; exact Nat.le_refl _)]
section
variable {prog : Program} {w : World} {A : Around} {E : Value → Shared → Prop} {s : Shared}
theorem applied_back {sl : Addr} {vl vu vs : Value} {n : Nat} {Q : Int × Int × Nat → Shared → Prop} (hs : s.heap.IsSliceOf sl vl vu vs) (pl : IsPart vl none) (pu : IsPart vu none) (ps : IsPart vs (some (-1)))
    (h : Q ((n : Int) - 1, -1, n) s) : wpAny (model prog w) A (Builtin.Slice.sliceApplied (.ref sl) (pure (n : Int))) Q E s := by
  obtain ⟨o, e1, e2, e3⟩ := id hs
  unfold Builtin.Slice.sliceApplied Builtin.Slice.sliceFields
  refine wpAny_bind (wpAny_bind (wpAny_field e1 e3 (x := vl) rfl ?_))
  refine wpAny_bind (wpAny_field e1 e3 (x := vu) rfl ?_)
  refine wpAny_bind (wpAny_field e1 e3 (x := vs) rfl (wpAny_pure ?_))
  refine wpAny_bind (HT.slicePart_ ps ?_)
  show wpAny _ _ (if ((-1 : Int) == 0) = true then _ else _) _ _ s
  rw [if_neg (by decide)]
  refine wpAny_bind (HT.slicePart_ pl ?_)
  refine wpAny_bind (HT.slicePart_ pu ?_)
  refine wpAny_bind (wpAny_pure ?_)
  show wpAny _ _ (pure ((Builtin.Slice.sliceAdjust none none (-1) (n : Int)).1, (-1 : Int), Builtin.Slice.slicePlaces (Builtin.Slice.sliceAdjust none none (-1) (n : Int)).1 (Builtin.Slice.sliceAdjust none none (-1) (n : Int)).2 (-1))) _ _ s
  rw [back_ends, back_places]
  exact wpAny_pure h
theorem item_back {t sl : Addr} {items : Array Value} {vl vu vs : Value} {Q : Value → Shared → Prop} (ht : IsTup s.heap t items) (hs : s.heap.IsSliceOf sl vl vu vs) (pl : IsPart vl none) (pu : IsPart vu none) (ps : IsPart vs (some (-1)))
    (h : Q (.ref s.heap.objs.size) { s with heap := s.heap.push { cls := .type "tuple", data := .seq items.toList.reverse.toArray } }) (hz : items.size ≤ sizeLine) : wpAny (model prog w) A (getItem (.ref t) (.ref sl)) Q E s := by
  have fits : sizeOk (.seq items.toList.reverse.toArray) := by
    show items.toList.reverse.toArray.size ≤ sizeLine
    rw [List.size_toArray, List.length_reverse, Array.length_toList]
    exact hz
  obtain ⟨o, e1, e2, e3⟩ := id hs
  have ty : s.TypeIs (.ref sl) "slice" := ⟨o, e1, e2⟩
  unfold getItem
  try with_reducible refine wpAny_holding ?_
  first
    | refine wpAny_bind (wpAny_pure ?_)
    | skip
  refine wpAny_bind (wpAny_sequenceKey ht.typeIs (by decide) ?_)
  refine wpAny_bind (wpAny_callSpecial?_slot (name := Str.ofString "__getitem__") ht.typeIs PyProof.Rows.slot_tuple_getitem (wpAny_call_entry PyProof.Rows.slot_tuple_getitem ht.typeIs entry_tuple_getitem ?_ (args_tuple_getitem _ _)))
  refine (?_ : wpAny _ _ (Builtin.Tuple.tupleItemsOf (.ref t) >>= _) _ _ s)
  refine wpAny_bind (tupleItemsOf_ ht ?_)
  refine wpAny_bind (wpAny_typeOf ty ?_)
  rw [if_pos (by decide)]
  refine wpAny_bind (applied_back hs pl pu ps ?_)
  have no : ¬ ((((items.size : Int) - 1) == 0 && (-1 : Int) == 1 && items.size == items.size) = true) := fun q => by
    rw [Bool.and_eq_true, Bool.and_eq_true] at q
    exact absurd q.1.2 (by decide)
  refine (?_ : wpAny _ _ (if (((items.size : Int) - 1) == 0 && (-1 : Int) == 1 && items.size == items.size) = true then _ else _) _ _ s)
  rw [if_neg no, back_pick]
  first
    | exact wpAny_bind (m := Builtin.Tuple.tupleExact _) (wpAny_newObj_type (wpAny_pure ⟨_, rfl, wpAny_pure h⟩) fits)
    | exact wpAny_bind (wpAny_bind (m := Builtin.Tuple.tupleExact _) (wpAny_newObj_type (wpAny_pure (wpAny_pure ⟨_, rfl, wpAny_pure h⟩)) fits))
    | exact wpAny_bind (wpAny_bind (m := Builtin.Tuple.tupleExact _) (wpAny_newObj_type (wpAny_pure ⟨_, rfl, wpAny_pure h⟩) fits))
end
section
variable {X : Cx}
/-- t[::-1] -/
def tRevT (K : PySem.W.Frag) (te : TE) : TE := fun σ H Q => te σ H fun x H1 => ∃ a xs, x = .ref a ∧ SqT K H1 a xs ∧ NewT xs.reverse H1 Q
theorem pe_revT {e : Expr} {te : TE} {k : Nat} {p1 p2 p3 pos : Pos} (he : PE X e te) : PE X (.Subscript e (.Slice none none (some (.UnaryOp .USub (.Constant (.int 1) k p1) p2)) p3) pos) (tRevT X.K te) := by
  constructor
  intro pins s σ H Q I h
  refine Subscript_ (thn (he.run pins s σ H _ I h) ?_)
  rintro v s1 ⟨x, H1, I1, r1, a, xs, rfl, hx, q⟩
  cases r1
  have hst : PO X (some (.UnaryOp .USub (.Constant (.int 1) k p1) p2)) (tPart (tUn (rU fun i => .int (-i)) (tC (.int 1)))) := po_some (pe_un un_neg pe_int)
  refine wpAny_Slice (thn (po_none.run pins s1 σ H1 (fun o H2 => o = none ∧ H2 = H1) I1 ⟨rfl, rfl⟩) ?_)
  rintro vl s2 ⟨l, H2, I2, pl, rfl, rfl⟩
  refine thn (po_none.run pins s2 σ H2 (fun o H3 => o = none ∧ H3 = H2) I2 ⟨rfl, rfl⟩) ?_
  rintro vu s3 ⟨u, H3, I3, pu, rfl, rfl⟩
  refine thn (hst.run pins s3 σ H3 (fun o H4 => o = some (-1) ∧ H4 = H3) I3 ⟨1, rfl, -1, rfl, rfl, rfl⟩) ?_
  rintro vs s4 ⟨o, H4, I4, ps, rfl, rfl⟩
  have I5 : Inv X pins σ H4 { s4 with heap := s4.heap.push { cls := .type "slice", data := .fields #[vl, vu, vs] } } := I4.kept (t' := s4.toks) fun b ob z => Heap.get?_push_of_some _ z
  obtain ⟨its, r, ht, hz⟩ := I5.tuple hx
  have len := r.length
  refine (?_ : wpAny (model X.prog X.w) X.A (subscriptTail e _ (.ref a) (.ref s4.heap.objs.size)) (EP X pins σ Q) X.xe _)
  refine tail_any (ops := [.ref a, .ref s4.heap.objs.size]) ht.typeIs (PyProof.Rows.slot_tuple_getitem.lookup) ?_ (by with_unfolding_all rfl)
  refine item_back ht (Heap.IsSliceOf.new _ vl vu vs) pl pu ps ?_ (by rw [List.size_toArray]; omega)
  exact lay_new (n := 0) I5 (by rw [List.length_reverse]; exact hz) r.reverse q
/-- t == u, t != u: one of them has no items -/
def rEmT (K : PySem.W.Frag) (f : Bool → Bool) : R2 := fun x y H Q => ∃ a b xs, x = .ref a ∧ y = .ref b ∧ SqT K H a xs ∧ SqT K H b [] ∧ Q (.bl (f xs.isEmpty)) H
theorem op_eqEmT (hu : X.A.units < cLine) : OpR X (compareOp .Eq) (rEmT X.K id) := by
  intro pins s σ H x y v u Q I rx ry h
  obtain ⟨a, b, xs, rfl, rfl, ha, hb, q⟩ := h
  cases rx
  cases ry
  obtain ⟨i1, r1, t1, _⟩ := I.tuple ha
  obtain ⟨i2, r2, t2, _⟩ := I.tuple hb
  cases r2
  refine SeqAt.eq_tupleAt (e := fun _ => true) t1 t2 hu (fun j h1 h2 => absurd h2 (Nat.not_lt_zero j)) ?_
  refine ⟨.bl (id xs.isEmpty), H, I, ?_, q⟩
  have l := r1.length
  cases xs with
  | nil =>
    cases r1
    rfl
  | cons y ys =>
    cases i1 with
    | nil => cases l
    | cons z zs => rfl
theorem op_neEmT (hu : X.A.units < cLine) : OpR X (compareOp .NotEq) (rEmT X.K not) := by
  intro pins s σ H x y v u Q I rx ry h
  obtain ⟨a, b, xs, rfl, rfl, ha, hb, q⟩ := h
  cases rx
  cases ry
  obtain ⟨i1, r1, t1, _⟩ := I.tuple ha
  obtain ⟨i2, r2, t2, _⟩ := I.tuple hb
  cases r2
  refine SeqAt.RcNeAt.tuples (e := fun _ => true) t1 t2 hu (fun j h1 h2 => absurd h2 (Nat.not_lt_zero j)) _ _ _ _ ?_
  refine ⟨.bl (not xs.isEmpty), H, I, ?_, q⟩
  have l := r1.length
  cases xs with
  | nil =>
    cases r1
    rfl
  | cons y ys =>
    cases i1 with
    | nil => cases l
    | cons z zs => rfl
end
end Xt
namespace Xt
open PySem PySem.Spec PyProof.Rows L2 Gy
/-- l == []: a list and one without items -/
def rEmL (K : PySem.W.Frag) : R2 := fun x y H Q => ∃ a b xs, x = .ref a ∧ y = .ref b ∧ SqL K H a xs ∧ SqL K H b [] ∧ Q (.bl xs.isEmpty) H
theorem op_eqEmL {X : Cx} (hu : X.A.units < cLine) : OpR X (compareOp .Eq) (rEmL X.K) := by
  intro pins s σ H x y v u Q I rx ry h
  obtain ⟨a, b, xs, rfl, rfl, ha, hb, q⟩ := h
  cases rx
  cases ry
  obtain ⟨i1, r1, t1, _⟩ := I.list ha
  obtain ⟨i2, r2, t2, _⟩ := I.list hb
  cases r2
  cases xs with
  | nil =>
    cases r1
    exact SeqAt.eq_listAt (e := fun _ => true) t1.isList t2.isList rfl hu (fun j h1 h2 => absurd h2 (Nat.not_lt_zero j)) ⟨.bl true, H, I, rfl, q⟩
  | cons y ys =>
    cases r1 with
    | cons h t =>
      exact SeqAt.eq_list_lengthsAt t1.isList t2.isList (by simp) hu ⟨.bl false, H, I, rfl, q⟩
end Xt

/-! sorted of a tuple of texts. -/
namespace Xt
open PySem PySem.Spec PyProof.Rows L2 Gy
section
variable {prog : Program} {w : World} {A : Around} {E : Value → Shared → Prop} {s : Shared}
theorem isTup_get {h : Heap} {a : Addr} {xs : Array Value} (t : h.IsTuple a xs) : ∃ o n, h.get? a = some o ∧ o.cls = .type "tuple" ∧ o.data = .seq xs n := by
  obtain ⟨o, ho, hc, n, hd⟩ := t
  exact ⟨o, n, ho, hc, hd⟩
/-- the heap behind the items of a tuple were taken -/
def took (h : Heap) (vs : List Value) : Heap := Heap.update (h.push (seqObj "list" #[] 0)) h.objs.size (Obj.mapSeq (· ++ vs.toArray))
theorem collect_tup {l : Addr} {vs : List Value} {o : Obj} {n : Nat} {Q : List Value → Shared → Prop} (ho : s.heap.get? l = some o) (hc : o.cls = .type "tuple") (hd : o.data = .seq vs.toArray n) (hz : vs.length ≤ sizeLine)
    (h : Q vs { s with heap := took s.heap vs }) : wpAny (model prog w) A (collect (.ref l)) Q E s := by
  unfold collect
  have new := Heap.get?_push_size (h := s.heap) (o := seqObj "list" #[] 0)
  refine wpAny_bind (wpAny_runValue (codeAny_builtin entry_proto_collect' ?_))
  show wpAny _ _ (newList [] >>= fun r => again (.builtin "list.__iadd__" ⟨[r, .ref l], []⟩)) _ _ s
  refine wpAny_bind (wpAny_newList (wpAny_pure ⟨Code.quiet_builtin _ (by decide +kernel), codeAny_builtin entry_list_iadd' ?_⟩))
  refine (?_ : wpAny _ _ (Builtin.List.listExtendWith _ (.ref l) _) _ _ _)
  unfold Builtin.List.listExtendWith
  have hold : Heap.get? (s.heap.push (seqObj "list" #[] 0)) l = some o := Heap.get?_push_of_some _ ho
  refine wpAny_bind (wpAny_typeOf (T := "tuple") ⟨o, hold, hc⟩ ?_)
  rw [if_pos (by rw [show (Value.type "tuple" == Value.type "tuple") = true by rfl]; simp)]
  refine wpAny_bind (listItems_at hold hd ?_)
  refine wpAny_bind (listItems_at (n := 0) (xs := #[]) (Heap.get?_push_size s.heap rfl) rfl ?_)
  rw [if_neg (by simp)]
  refine wpAny_bind (listUpdate_at (n := 0) (xs := #[]) (Heap.get?_push_size s.heap rfl) rfl ?_ (Nat.zero_le _) ?_)
  · refine wpAny_pure ?_
    refine wpAny_bind (wpAny_load (get?_update_seq (Heap.get?_push_size s.heap rfl) _) ?_)
    refine wpAny_pure ?_
    have e : ((#[] : Array Value) ++ vs.toArray).toList = vs := by simp
    rw [e]
    exact h
  · rw [Array.size_append, List.size_toArray]
    show 0 + vs.length ≤ sizeLine + 1
    omega
theorem sorted_tup {l : Addr} {vs : List Value} {ss : List Str} {o : Obj} {n : Nat} {Q : Value → Shared → Prop} (ho : s.heap.get? l = some o) (hc : o.cls = .type "tuple") (hd : o.data = .seq vs.toArray n) (hS : StrsAre vs ss) (h64 : vs.length < 64)
    (h : ∀ (out : Array Value) (zs : List Str), StrsAre out.toList zs → zs.Perm ss → sortedS zs = true → Q (.ref (s.heap.objs.size + 1)) { s with heap := sortedAll s.heap vs out }) :
    wpAny (model prog w) A (call (.builtin "sorted") [.ref l]) Q E s := by
  refine Calls.call_function_entry kind_sorted plain_sorted entry_sorted (args_sorted1 _) ?_
  unfold Builtin.«sorted»
  refine wpAny_bind (m := checkCount "sorted" 1 1 _) (wpAny_pure ?_)
  refine wpAny_bind (collect_tup ho hc hd (small64 h64) ?_)
  refine wpAny_bind (wpAny_newList ?_)
  have sz : (took s.heap vs).objs.size = s.heap.objs.size + 1 := (Heap.size_update ..).trans (size_push' ..)
  have at1 : Heap.get? ((took s.heap vs).push (seqObj "list" vs.toArray 0)) (s.heap.objs.size + 1) = some (seqObj "list" vs.toArray 0) := by
    rw [← sz]
    exact Heap.get?_push_size _ rfl
  refine (?_ : wpAny _ _ _ _ _ { s with heap := (took s.heap vs).push (seqObj "list" vs.toArray 0) })
  dsimp only
  rw [sz]
  refine wpAny_bind (wpAny_holding (wpAny_call_entry slot_list_sort ⟨_, at1, rfl⟩ entry_list_sort (list_sort_treeK strKind_oneLt at1 hS.keysOf (fun v₁ v₂ rest e => keyKind_strs (by rw [← e]; exact hS)) h64 fun st hp hs => ⟨_, rfl, ?_⟩) (args_list_sort _)))
  obtain ⟨zs, h1, h2, h3⟩ := sorted_out_str hS hp hs
  exact wpAny_pure ⟨_, rfl, h _ zs h1 h2 h3⟩
end
section
variable {X : Cx}
/-- sorted of a list or a tuple of texts -/
def rSortX (K : PySem.W.Frag) : List V → Hp → VK → Prop := fun vs H Q => ∃ (a : Addr) (xs : List Str), vs = [.ref a] ∧ (SqL K H a (xs.map V.str) ∨ SqT K H a (xs.map V.str)) ∧ xs.length < 64 ∧
  ∀ (ys : List Str) (p : Addr), ys.Perm xs → sortedS ys = true → H p = none → Q (.ref p) (upd H p (.lst (ys.map V.str)))
theorem cr_sortX : CallR X (.builtin "sorted") (rSortX X.K) := by
  intro pins s σ H vs us Q I r h
  obtain ⟨a, xs, rfl, hs | hs, h64, q⟩ := h
  · exact cr_sortedS pins s σ H _ us Q I r ⟨a, xs, rfl, hs, h64, q⟩
  · obtain ⟨its, rv, ⟨o, ho, hc, n, hd⟩, _⟩ := I.tuple hs
    rw [Vals.ref1 r]
    have len := rv.length
    rw [List.length_map] at len
    refine sorted_tup ho hc hd rv.strs (by rw [← len]; exact h64) fun out ys h1 h2 h3 => ?_
    obtain ⟨ep, he⟩ := PyProof.Rows.sortedAll_at s.heap its out
    have lz : (ys.map V.str).length ≤ sizeLine := by
      rw [List.length_map, h2.length_eq]
      exact small64 h64
    exact ⟨.ref _, upd H (s.heap.objs.size + 1) (.lst (ys.map V.str)), I.laid (t' := s.toks) (fun _ _ => PyProof.Rows.sortedAll_old) (Nat.le_succ _) ⟨lz, out.toList, ep, vals_of_strs h1, he⟩, rfl, q ys _ h2 h3 (I.hok.fresh (Nat.le_succ _))⟩
end
end Xt

/-! sorted(set(xs)), xs a list or a tuple of texts. -/
namespace Xs
open PySem PySem.Spec PyProof.Rows L2 Gy Xt
/-- the text of a set's row -/
def rowX (e : Int × Value) : Str := match e.2 with
  | .str x _ => x
  | _ => Str.empty
def IsRow (P : Program) (w : World) (e : Int × Value) : Prop := ∃ x tk, e = ((strKind P w).hash x, Value.str x tk)
/-- the rows of a set of texts, and how they lie -/
structure Rws (P : Program) (w : World) (xs : List Str) (es : Array (Int × Value)) (t : SetTable) : Prop where
  rows : ∀ e ∈ es.toList, IsRow P w e
  nd : (es.toList.map rowX).Nodup
  mem : ∀ x, x ∈ es.toList.map rowX ↔ x ∈ xs
  few : es.size ≤ xs.length
  room : es.size < scanBound
  fit : t.fits es.size = true
  ris : Ris t.place.toList
  led : w.params.followText "set-order" = true ∨ t.led = true
def Txs (P : Program) (w : World) (h : Heap) (a : Addr) (xs : List Str) : Prop := ∃ o es ep t, h.get? a = some o ∧ o.ExactSet ∧ o.data = .set es ep t ∧ Rws P w xs es t
theorem rows_elems {P : Program} {w : World} {l : List (Int × Value)} (h : ∀ e ∈ l, IsRow P w e) : ElemsOf (strKind P w) l := fun e he => by
  obtain ⟨x, tk, rfl⟩ := h e he
  exact ⟨⟨x, strKind_is _ _ _ _, rfl⟩, rfl⟩
section
variable {P : Program} {w : World} {A : Around} {E : Value → Shared → Prop} {s : Shared} {a : Addr} {xs : List Str}
/-- the rows are stored, and laid anew if the table is too full -/
theorem store_rows {g : Bool → Sem Unit} (gq : ∀ (b : Bool) (s1 : Shared) (Q' : Unit → Shared → Prop), Q' () s1 → wpAny (model P w) A (g b) Q' E s1) {o : Obj} {es ens : Array (Int × Value)} {ep : Nat} {t tn : SetTable} (ho : s.heap.get? a = some o) (hx : o.ExactSet)
    (hd : o.data = .set es ep t) (R : Rws P w xs ens tn) {dm : Bool} {Z : Option Bool → Shared → Prop} (fin : ∀ h', Heap.SameBut a s.heap h' → Txs P w h' a xs → Z (some true) { s with heap := h' }) :
    wpAny (model P w) A (do
        storeSet a ens tn
        if (!dm && tn.tooFull) = true then do
            g (relayAll tn ens (SetTable.grown ens.size)).2.2
            storeSet a (relayAll tn ens (SetTable.grown ens.size)).1 (relayAll tn ens (SetTable.grown ens.size)).2.1
            pure (some true)
          else pure (some true)) Z E s := by
  have g1 := store_at (es' := ens) (t' := tn) ho hd
  have b1 := Heap.SameBut.update s.heap a (Obj.putSet ens tn)
  refine wpAny_bind (wpAny_storeSet_of ho hd ?_ (fits_of_scanBound R.room))
  by_cases c : (!dm && tn.tooFull) = true
  · rw [if_pos c]
    have p := relayAll_perm tn ens (SetTable.grown ens.size)
    have f3 := relayAll_fits tn ens (SetTable.grown ens.size)
    have i3 := relayAll_ris tn ens (SetTable.grown ens.size)
    have l3 := relayAll_led tn ens (SetTable.grown ens.size)
    generalize relayAll tn ens (SetTable.grown ens.size) = Y at p f3 i3 l3 ⊢
    have sz : Y.1.size = ens.size := by
      have := p.length_eq
      simpa using this
    have rm : Y.1.size < scanBound := by rw [sz]; exact R.room
    refine wpAny_bind (gq _ _ _ ?_)
    refine wpAny_bind (wpAny_storeSet_of g1 rfl ?_ (fits_of_scanBound rm))
    refine wpAny_pure (fin _ (b1.trans (Heap.SameBut.update _ a _)) ⟨_, Y.1, _, Y.2.1, store_at g1 rfl, hx, rfl, ?_⟩)
    exact ⟨fun e he => R.rows e (p.mem_iff.mp he), (p.map rowX).nodup_iff.mpr R.nd, fun x => ((p.map rowX).mem_iff).trans (R.mem x), by rw [sz]; exact R.few, rm, f3, i3, R.led.imp id fun z => by rw [l3]; exact z⟩
  · rw [if_neg c]
    exact wpAny_pure (fin _ b1 ⟨_, ens, _, tn, g1, hx, rfl, R⟩)
/-- one text more -/
theorem add_txt {x : Str} {tk : Tok} {Q : Bool → Shared → Prop} (R : Txs P w s.heap a xs) (room : xs.length + 1 < scanBound) (fin : ∀ h' b, Heap.SameBut a s.heap h' → Txs P w h' a (xs ++ [x]) → Q b { s with heap := h' }) :
    wpAny (model P w) A (setAddHashed a (.str x tk) ((strKind P w).hash x)) Q E s := by
  obtain ⟨o, es, ep, t, ho, hx, hd, r⟩ := R
  have key := strKind_is P w x tk
  have sc : (Value.str x tk).scannable = true := rfl
  have el := rows_elems r.rows
  have few := r.few
  unfold setAddHashed setAddHashedIn
  refine wpAny_holding (wpAny_bind (wpAny_setState_of ho hd r.fit ?_))
  dsimp only
  rw [byScan_of sc r.room el]
  simp only [↓reduceIte]
  unfold setAddByScan
  refine wpAny_bind (wpAny_bind (wpAny_rule (wpAny_bind (wpAny_setScan_of key ho hd r.fit el ?_))))
  cases fi : List.findIdx? (fun e => (strKind P w).is x e.2) es.toList with
  | some j =>
    dsimp only
    obtain ⟨lt, hit, _⟩ := List.findIdx?_eq_some_iff_getElem.mp fi
    have mx : x ∈ xs := by
      refine (r.mem x).mp (List.mem_map.mpr ⟨es.toList[j], List.getElem_mem lt, ?_⟩)
      obtain ⟨y, ty, ey⟩ := r.rows _ (List.getElem_mem lt)
      rw [ey] at hit ⊢
      have := (strKind P w).inj _ _ _ hit (strKind_is P w y ty)
      exact this.symm
    refine wpAny_pure (wpAny_pure (fin s.heap _ (Heap.SameBut.refl a s.heap) ⟨o, es, ep, t, ho, hx, hd, r.rows, r.nd, fun y => ?_, by rw [List.length_append]; omega, r.room, r.fit, r.ris, r.led⟩))
    rw [r.mem y, List.mem_append, List.mem_singleton]
    exact ⟨.inl, fun z => z.elim id fun e => e ▸ mx⟩
  | none =>
    dsimp only
    have nx : x ∉ es.toList.map rowX := fun z => by
      obtain ⟨e, he, ex⟩ := List.mem_map.mp z
      have no := List.findIdx?_eq_none_iff.mp fi e he
      obtain ⟨y, ty, rfl⟩ := r.rows e he
      have e2 : y = x := ex
      rw [e2, strKind_is] at no
      cases no
    have pm := layNew_perm t es ((strKind P w).hash x) (.str x tk)
    have f1 := layNew_fits t es ((strKind P w).hash x) (.str x tk)
    have i1 := layNew_ris t es ((strKind P w).hash x) (.str x tk) r.ris
    have l1 := layNew_led t es ((strKind P w).hash x) (.str x tk)
    generalize layNew t es ((strKind P w).hash x) (.str x tk) = Y at pm f1 i1 l1 ⊢
    obtain ⟨ens, tn, dm, gv⟩ := Y
    dsimp only at pm f1 i1 l1 ⊢
    have pc : ens.toList.Perm (((strKind P w).hash x, Value.str x tk) :: es.toList) := by
      rw [Array.toList_push] at pm
      exact pm.trans (List.perm_append_singleton _ _)
    have px : (ens.toList.map rowX).Perm (x :: es.toList.map rowX) := pc.map rowX
    have sz : ens.size = es.size + 1 := by
      have := pc.length_eq
      simpa using this
    have rw1 : ∀ {tt : SetTable}, tt.fits ens.size = true → Ris tt.place.toList → tt.led = t.led → Rws P w (xs ++ [x]) ens tt := fun {tt} ff ii ll => by
      refine ⟨fun e he => ?_, px.nodup_iff.mpr (List.nodup_cons.mpr ⟨nx, r.nd⟩), fun y => ?_, by rw [sz, List.length_append]; exact Nat.succ_le_succ few, by rw [sz]; omega, ff, ii, r.led.imp id fun z => by rw [ll]; exact z⟩
      · rcases List.mem_cons.mp (pc.mem_iff.mp he) with z | z
        · exact ⟨x, tk, z⟩
        · exact r.rows e z
      · rw [px.mem_iff, List.mem_cons, r.mem y, List.mem_append, List.mem_singleton]
        exact Or.comm
    have gw : ∀ (b : Bool) (s1 : Shared) (Q' : Unit → Shared → Prop), Q' () s1 → wpAny (model P w) A (match b with | true => rule "set.scan.the-table-gave-way" | false => pure ()) Q' E s1 := fun b s1 Q' q => by
      cases b
      · exact wpAny_pure q
      · exact wpAny_rule q
    refine wpAny_bind (gw _ _ _ ?_)
    split
    · refine wpAny_bind ?_
      rw [hashByValue_scannable 8 sc]
      refine wpAny_pure ?_
      refine store_rows (xs := xs ++ [x]) ?_ ho hx hd ?_ ?_
      · exact gw
      · refine rw1 ?_ ?_ ?_
        · first | exact f1 | (split <;> first | exact f1 | exact SetTable.fits_plain_off f1)
        · first | exact i1 | (split <;> exact i1)
        · first | exact l1 | (split <;> exact l1)
      · intro h' sb q
        dsimp only
        exact wpAny_pure (fin h' _ sb q)
    · refine wpAny_bind (wpAny_pure ?_)
      simp only [↓reduceIte]
      refine store_rows (xs := xs ++ [x]) gw ho hx hd (rw1 f1 i1 l1) fun h' sb q => ?_
      dsimp only
      exact wpAny_pure (fin h' _ sb q)
end
end Xs

/-! sorted(set(xs)), xs a list or a tuple of texts: the set is made, and sorted. -/
namespace Xs
open PySem PySem.Spec PyProof.Rows L2 Gy Xt
abbrev setL (w : World) : Obj := set0 (!w.params.followText "set-order")
theorem txs_new {P : Program} {w : World} {h : Heap} {a : Addr} (e : h.get? a = some (setL w)) : Txs P w h a [] := by
  refine ⟨_, #[], 0, _, e, ⟨rfl, rfl, rfl⟩, rfl, (fun e he => nomatch he), List.nodup_nil, (fun x => Iff.rfl), Nat.le_refl _, by decide, rfl, List.Pairwise.nil, ?_⟩
  show _ ∨ (!w.params.followText "set-order") = true
  cases w.params.followText "set-order" with
  | true => exact .inl rfl
  | false => exact .inr rfl
section
variable {P : Program} {w : World} {A : Around} {R : Result → Shared → Prop} {J : Addr} {fp wr : List Addr} {G : Array GenState → Array GenState → Prop} {n : Nat} {Y : Nat → Value → Prop} {Z : Nat → Shared → Prop}
/-- the set takes text after text -/
theorem take_txs (W : WalksS P w A.in1 J fp wr G n Y Z) (S : Addr) (out : S ∉ fp) (xs : List Str) (len : xs.length = n) (room : n + 1 < scanBound) (val : ∀ i v, Y i v → ∃ t, v = .str (xs.getD i Str.empty) t) :
    ∀ (k i : Nat) (s : Shared), n - i = k → i ≤ n → Z i s → Txs P w s.heap S (xs.take i) → (∀ s2, Moved (S :: wr) G s s2 → Txs P w s2.heap S xs → R (.ok (.ret .none)) s2) →
      codeAny (model P w) A (.builtin "set.update.loop" ⟨[.ref S, .ref J], []⟩) R s := by
  have out2 : S ∉ wr := fun h => out (W.sub _ h)
  have more : ∀ b ∈ wr, b ∈ S :: wr := fun b hb => List.mem_cons_of_mem _ hb
  intro k
  induction k with
  | zero =>
    intro i s ek le z hS fin
    obtain rfl : i = n := by omega
    refine codeAny_builtin PyProof.Rows.F.entry_set_update_loop ?_; rw [Around.under_plainId PyProof.Rows.F.plain_set_update_loop _]
    show wpAny _ A.in1 (pyNext (.ref J) >>= _) _ _ s
    refine wpAny_bind (W.done s _ _ z fun s2 mv => ?_)
    obtain ⟨o, es, ep, t, ho, rest⟩ := hS
    rw [List.take_of_length_le (by omega)] at rest
    exact wpAny_pure (fin s2 (mv.mono more) ⟨o, es, ep, t, mv.heap S _ out2 ho, rest⟩)
  | succ k ih =>
    intro i s ek le z hS fin
    have lt : i < n := by omega
    refine codeAny_builtin PyProof.Rows.F.entry_set_update_loop ?_; rw [Around.under_plainId PyProof.Rows.F.plain_set_update_loop _]
    show wpAny _ A.in1 (pyNext (.ref J) >>= _) _ _ s
    refine wpAny_bind (W.item i s _ _ lt z fun v s2 hY z2 mv => ?_)
    obtain ⟨t, rfl⟩ := val i v hY
    have hS2 : Txs P w s2.heap S (xs.take i) := by
      obtain ⟨o, es, ep, tb, ho, rest⟩ := hS
      exact ⟨o, es, ep, tb, mv.heap S _ out2 ho, rest⟩
    show wpAny _ A.in1 (holding [Value.str (xs.getD i Str.empty) t] (setAdd S (.str (xs.getD i Str.empty) t)) >>= _) _ _ s2
    refine wpAny_bind (wpAny_holding ?_); unfold setAdd; refine wpAny_holding ?_
    refine wpAny_bind ((strKind P w).pyHash (k := xs.getD i Str.empty) (strKind_is _ _ _ _) ?_)
    have lt2 : i < xs.length := by omega
    have e : xs.getD i Str.empty = xs[i] := by rw [List.getD_eq_getElem?_getD, List.getElem?_eq_getElem lt2]; rfl
    have tk1 : xs.take (i + 1) = xs.take i ++ [xs.getD i Str.empty] := by rw [e, List.take_add_one, List.getElem?_eq_getElem lt2]; rfl
    refine add_txt (s := { s2 with toks := s2.toks + 1 }) hS2 (by rw [List.length_take]; omega) fun h3 b sb hS3 => ?_
    rw [← tk1] at hS3
    refine wpAny_pure ⟨plainId_quiet PyProof.Rows.F.plain_set_update_loop _, ih (i + 1) _ (by omega) lt (W.frame _ s2 _ _ z2 (Nat.le_succ _) fun b hb o e => ?_) hS3 fun s4 mv4 hS5 => ?_⟩
    · rw [sb.2 b (fun h : b = S => out (h ▸ hb))]
      exact e
    · refine fin s4 (Moved.trans W.gtrans ((mv.mono more).then_heap (Nat.le_succ _) fun b o hb e => ?_) mv4) hS5
      rw [sb.2 b (fun h : b = S => hb (h ▸ List.mem_cons_self))]
      exact e
end
section
variable {P : Program} {w : World} {A : Around} {E : Value → Shared → Prop} {s : Shared}
set_option maxHeartbeats 3200000 in
theorem set_of_tuple {l : Addr} {its : Array Value} {xs : List Str} {Q : Value → Shared → Prop} (calm : A.handled = none) (at_ : s.heap.IsTuple l its) (are : StrsAre its.toList xs) (room : xs.length + 1 < scanBound)
    (fin : ∀ (h2 : Heap) (tk : Nat), Txs P w h2 s.heap.objs.size xs → (∀ b o, s.heap.get? b = some o → h2.get? b = some o) → Q (.ref s.heap.objs.size) { s with heap := h2, toks := tk }) :
    wpAny (model P w) A (call (.type "set") [.ref l]) Q E s := by
  have sz : xs.length = its.size := by rw [← StrsAre.len_eq are, Array.length_toList]
  obtain ⟨_, _, m0⟩ := PySem.F.called_set.mro
  have m1 := PySem.F.called_set.made; have m2 := PySem.F.called_set.sub
  refine wpAny_call (codeAny_of_tree ?_); show wpAny _ _ (callAny (.type "set") _) _ _ _
  refine wpAny_pure ⟨Code.quiet_builtin _ (by decide +kernel), codeAny_builtin PySem.F.entry_type_call ?_⟩; rw [Around.under_plain (weight_type_call_type "set" [.ref l] []) rfl]
  have m3 := PySem.F.called_set.notType; have m4 := PySem.F.called_set.canCreate; have m5 := PySem.F.typeCall_set_1 (.ref l)
  repeat (any_goals (first | assumption | wp_step))
  refine codeAny_mono (code_set_led1 (.ref l) (E := E) (Q₁ := fun ob s1 => ob = .ref s.heap.objs.size ∧ s1 = { s with heap := s.heap.push (setL w) }) ⟨rfl, rfl⟩) fun r s1 hr => ?_
  rcases r with e | (_ | _ | _ | ob)
  · exact hr
  · exact hr.elim
  · exact hr.elim
  · exact hr.elim
  obtain ⟨rfl, rfl⟩ := hr
  have got : (s.heap.push (setL w)).get? s.heap.objs.size = some (setL w) := Heap.get?_push_size _ rfl
  have ty : Shared.TypeIs { s with heap := s.heap.push (setL w) } (.ref s.heap.objs.size) "set" := ⟨_, got, rfl⟩
  have m6 := PySem.F.called_set.init.lookup; have m7 := PySem.F.called_set.init.bind (.ref s.heap.objs.size)
  repeat (any_goals (first | assumption | wp_step))
  refine codeAny_mono (codeAny_call_builtin (R := wants (fun r s2 => r = .none ∧ ∃ h2 tk, s2 = { s with heap := h2, toks := tk } ∧ Txs P w h2 s.heap.objs.size xs ∧ (∀ b o, s.heap.get? b = some o → h2.get? b = some o)) E) PySem.F.called_set.init.plain PySem.F.entry_set_init (check_set_init_1 ty ?_)) fun r2 s2 hr2 => ?_
  · obtain ⟨ol, go, co, nl, dl⟩ := at_
    obtain ⟨ocls, odict, odata, oslots⟩ := ol
    simp only at co dl
    subst co dl
    have go2 : (s.heap.push (setL w)).get? l = some { cls := .type "tuple", dict := odict, data := .seq its nl, slots := oslots } := Heap.get?_push_of_some _ go
    have m8 := PySem.F.sub_tuple_set; have m9 := PySem.F.sub_tuple_frozenset
    have m10 : (Value.type "tuple" == Value.type "dict") = false := by decide
    have at2 : (s.heap.push (setL w)).IsTuple l its := ⟨_, go2, rfl, nl, rfl⟩
    unfold Builtin.«set.__init__» noKeywords Builtin.Frozenset.updateFrom; generalize ePI : pyIter = PI
    wp_walk
    subst ePI
    refine wpAny_pyIter_tuple at2 (wpAny_bind (wpAny_runValue ?_))
    have low : l < s.heap.objs.size := Heap.lt_size go
    have calm3 : A.in1.in1.in1.handled = none := by simp [calm]
    have far : l ≠ (s.heap.push (setL w)).objs.size := by rw [Heap.size_push]; exact Nat.ne_of_lt (Nat.lt_succ_of_lt low)
    have out : s.heap.objs.size ∉ [(s.heap.push (setL w)).objs.size, l] := by
      rw [Heap.size_push]
      simp only [List.mem_cons, List.not_mem_nil, or_false, not_or]
      exact ⟨Nat.ne_of_lt (Nat.lt_succ_self _), Nat.ne_of_gt low⟩
    refine take_txs ((Walks.tuple calm3 _ l far its).toS) s.heap.objs.size out xs sz (by rw [← sz]; exact room) (fun i v hv => SS.strs_at are i v (by rw [Array.getElem?_toList]; exact hv)) (its.size - 0) 0 _ (by omega) (Nat.zero_le _)
      ⟨⟨_, Heap.get?_push_size _ rfl, rfl, rfl⟩, ⟨_, Heap.get?_push_of_some _ go2, rfl, nl, rfl⟩⟩ ?first ?last
    case first =>
      have got2 : ((s.heap.push (setL w)).push { cls := .type "tuple_iterator", data := .fields #[.ref l, .int 0 0] }).get? s.heap.objs.size = some (setL w) := Heap.get?_push_of_some _ got
      exact txs_new got2
    case last =>
      intro s2 mv hS
      obtain ⟨h2, g2, d2, tk2, os2⟩ := s2
      obtain rfl : g2 = s.gens := mv.gens
      obtain rfl : d2 = s.drawn := mv.drawn
      obtain rfl : os2 = s.os := mv.os
      show wpAny _ _ _ _ _ _
      refine wpAny_pure (wpAny_pure ⟨rfl, h2, tk2, rfl, hS, fun b o e => ?_⟩)
      have lb := Heap.lt_size e
      refine mv.heap b o ?_ (Heap.get?_push_of_some _ (Heap.get?_push_of_some _ e))
      rw [Heap.size_push]
      simp only [List.mem_cons, List.not_mem_nil, or_false, not_or]
      exact ⟨Nat.ne_of_lt lb, Nat.ne_of_lt (Nat.lt_succ_of_lt lb)⟩
  · rcases r2 with e | (_ | _ | _ | r)
    · exact hr2
    · exact hr2.elim
    · exact hr2.elim
    · exact hr2.elim
    obtain ⟨rfl, h2, tk, rfl, hS, keep⟩ := hr2
    repeat (any_goals (first | assumption | wp_step))
    exact fin _ _ hS keep
end
section
variable {P : Program} {w : World} {A : Around} {E : Value → Shared → Prop} {s : Shared}
set_option maxHeartbeats 3200000 in
theorem set_of_list {l : Addr} {its : Array Value} {xs : List Str} {Q : Value → Shared → Prop} (calm : A.handled = none) (at_ : s.heap.IsList l its) (are : StrsAre its.toList xs) (room : xs.length + 1 < scanBound)
    (fin : ∀ (h2 : Heap) (tk : Nat), Txs P w h2 s.heap.objs.size xs → (∀ b o, s.heap.get? b = some o → h2.get? b = some o) → Q (.ref s.heap.objs.size) { s with heap := h2, toks := tk }) :
    wpAny (model P w) A (call (.type "set") [.ref l]) Q E s := by
  have sz : xs.length = its.size := by rw [← StrsAre.len_eq are, Array.length_toList]
  obtain ⟨_, _, m0⟩ := PySem.F.called_set.mro
  have m1 := PySem.F.called_set.made; have m2 := PySem.F.called_set.sub
  refine wpAny_call (codeAny_of_tree ?_); show wpAny _ _ (callAny (.type "set") _) _ _ _
  refine wpAny_pure ⟨Code.quiet_builtin _ (by decide +kernel), codeAny_builtin PySem.F.entry_type_call ?_⟩; rw [Around.under_plain (weight_type_call_type "set" [.ref l] []) rfl]
  have m3 := PySem.F.called_set.notType; have m4 := PySem.F.called_set.canCreate; have m5 := PySem.F.typeCall_set_1 (.ref l)
  repeat (any_goals (first | assumption | wp_step))
  refine codeAny_mono (code_set_led1 (.ref l) (E := E) (Q₁ := fun ob s1 => ob = .ref s.heap.objs.size ∧ s1 = { s with heap := s.heap.push (setL w) }) ⟨rfl, rfl⟩) fun r s1 hr => ?_
  rcases r with e | (_ | _ | _ | ob)
  · exact hr
  · exact hr.elim
  · exact hr.elim
  · exact hr.elim
  obtain ⟨rfl, rfl⟩ := hr
  have got : (s.heap.push (setL w)).get? s.heap.objs.size = some (setL w) := Heap.get?_push_size _ rfl
  have ty : Shared.TypeIs { s with heap := s.heap.push (setL w) } (.ref s.heap.objs.size) "set" := ⟨_, got, rfl⟩
  have m6 := PySem.F.called_set.init.lookup; have m7 := PySem.F.called_set.init.bind (.ref s.heap.objs.size)
  repeat (any_goals (first | assumption | wp_step))
  refine codeAny_mono (codeAny_call_builtin (R := wants (fun r s2 => r = .none ∧ ∃ h2 tk, s2 = { s with heap := h2, toks := tk } ∧ Txs P w h2 s.heap.objs.size xs ∧ (∀ b o, s.heap.get? b = some o → h2.get? b = some o)) E) PySem.F.called_set.init.plain PySem.F.entry_set_init (check_set_init_1 ty ?_)) fun r2 s2 hr2 => ?_
  · obtain ⟨ol, go, co, nl, dl⟩ := at_
    obtain ⟨ocls, odict, odata, oslots⟩ := ol
    simp only at co dl
    subst co dl
    have go2 : (s.heap.push (setL w)).get? l = some { cls := .type "list", dict := odict, data := .seq its nl, slots := oslots } := Heap.get?_push_of_some _ go
    have m8 := PySem.F.sub_list_set; have m9 := PySem.F.sub_list_frozenset
    have m10 : (Value.type "list" == Value.type "dict") = false := by decide
    have at2 : (s.heap.push (setL w)).IsList l its := ⟨_, go2, rfl, nl, rfl⟩
    unfold Builtin.«set.__init__» noKeywords Builtin.Frozenset.updateFrom; generalize ePI : pyIter = PI
    wp_walk
    subst ePI
    refine wpAny_pyIter_list at2 (wpAny_bind (wpAny_runValue ?_))
    have low : l < s.heap.objs.size := Heap.lt_size go
    have calm3 : A.in1.in1.in1.handled = none := by simp [calm]
    have far : l ≠ (s.heap.push (setL w)).objs.size := by rw [Heap.size_push]; exact Nat.ne_of_lt (Nat.lt_succ_of_lt low)
    have out : s.heap.objs.size ∉ [(s.heap.push (setL w)).objs.size, l] := by
      rw [Heap.size_push]
      simp only [List.mem_cons, List.not_mem_nil, or_false, not_or]
      exact ⟨Nat.ne_of_lt (Nat.lt_succ_self _), Nat.ne_of_gt low⟩
    refine take_txs ((Walks.list calm3 _ l far its).toS) s.heap.objs.size out xs sz (by rw [← sz]; exact room) (fun i v hv => SS.strs_at are i v (by rw [Array.getElem?_toList]; exact hv)) (its.size - 0) 0 _ (by omega) (Nat.zero_le _)
      ⟨⟨_, Heap.get?_push_size _ rfl, rfl, rfl⟩, ⟨_, Heap.get?_push_of_some _ go2, rfl, nl, rfl⟩⟩ ?first ?last
    case first =>
      have got2 : ((s.heap.push (setL w)).push { cls := .type "list_iterator", data := .fields #[.ref l, .int 0 0] }).get? s.heap.objs.size = some (setL w) := Heap.get?_push_of_some _ got
      exact txs_new got2
    case last =>
      intro s2 mv hS
      obtain ⟨h2, g2, d2, tk2, os2⟩ := s2
      obtain rfl : g2 = s.gens := mv.gens
      obtain rfl : d2 = s.drawn := mv.drawn
      obtain rfl : os2 = s.os := mv.os
      show wpAny _ _ _ _ _ _
      refine wpAny_pure (wpAny_pure ⟨rfl, h2, tk2, rfl, hS, fun b o e => ?_⟩)
      have lb := Heap.lt_size e
      refine mv.heap b o ?_ (Heap.get?_push_of_some _ (Heap.get?_push_of_some _ e))
      rw [Heap.size_push]
      simp only [List.mem_cons, List.not_mem_nil, or_false, not_or]
      exact ⟨Nat.ne_of_lt lb, Nat.ne_of_lt (Nat.lt_succ_of_lt lb)⟩
  · rcases r2 with e | (_ | _ | _ | r)
    · exact hr2
    · exact hr2.elim
    · exact hr2.elim
    · exact hr2.elim
    obtain ⟨rfl, h2, tk, rfl, hS, keep⟩ := hr2
    repeat (any_goals (first | assumption | wp_step))
    exact fin _ _ hS keep
end
end Xs

namespace Xs
open PySem PySem.Spec PyProof.Rows L2 Gy Xt
theorem strs_rows {P : Program} {w : World} : ∀ (vs : List Value), (∀ v ∈ vs, ∃ x tk, v = Value.str x tk) → ∃ ss, StrsAre vs ss
  | [], _ => ⟨[], .nil⟩
  | v :: vs, h => by
    obtain ⟨x, tk, rfl⟩ := h v List.mem_cons_self
    obtain ⟨ss, hs⟩ := strs_rows (P := P) (w := w) vs fun u hu => h u (List.mem_cons_of_mem _ hu)
    exact ⟨x :: ss, .cons x tk hs⟩
def txV (v : Value) : Str := match v with
  | .str x _ => x
  | _ => Str.empty
theorem strs_txV : ∀ {vs : List Value} {ss : List Str}, StrsAre vs ss → ss = vs.map txV
  | _, _, .nil => rfl
  | _, _, .cons x t h => by
    rw [List.map_cons, ← strs_txV h]
    rfl
section
variable {P : Program} {w : World} {A : Around} {E : Value → Shared → Prop} {s : Shared} {a : Addr} {xs : List Str}
/-- sorted of a set of texts -/
theorem sorted_txs {Q : Value → Shared → Prop} (R : Txs P w s.heap a xs) (calm : A.handled = none) (few : xs.length < 64)
    (fin : ∀ (s2 : Shared) (p : Addr) (out : Array Value) (c : Nat) (ys : List Str), (∀ b o, s.heap.get? b = some o → s2.heap.get? b = some o) → s2.gens = s.gens → s2.os = s.os → s.heap.objs.size ≤ p → s2.heap.get? p = some (seqObj "list" out c) → StrsAre out.toList ys → sortedS ys = true → ys.Nodup → (∀ x, x ∈ ys ↔ x ∈ xs) → ys.length ≤ xs.length → Q (.ref p) s2) :
    wpAny (model P w) A (call (.builtin "sorted") [.ref a]) Q E s := by
  obtain ⟨o, es, ep, t, ho, hx, hd, r⟩ := R
  refine Calls.call_function_entry kind_sorted plain_sorted entry_sorted (args_sorted1 _) ?_
  unfold Builtin.«sorted»
  refine wpAny_bind (m := checkCount "sorted" 1 1 _) (wpAny_pure ?_)
  refine wpAny_bind (collect_set (A := A.in1) calm ⟨o, ho, hx.1, hd⟩ r.fit r.room r.ris r.led fun s1 vs k1 z1 g1 o1 pm => ?_)
  have lv : vs.length = es.size := by rw [pm.length_eq, List.length_map, Array.length_toList]
  have l64 : vs.length < 64 := by have := r.few; omega
  obtain ⟨ss, hS⟩ := strs_rows (P := P) (w := w) vs fun v hv => by
    obtain ⟨e, he, q⟩ := List.mem_map.mp (pm.mem_iff.mp hv)
    obtain ⟨x, tk, e2⟩ := r.rows e he
    exact ⟨x, tk, by rw [← q, e2]⟩
  have ps : ss.Perm (es.toList.map rowX) := by
    rw [strs_txV hS]
    have q := pm.map txV
    rw [List.map_map] at q
    exact q
  refine wpAny_bind (wpAny_newList ?_ (by rw [sizeLine_eq]; omega))
  have at1 : (s1.heap.push (seqObj "list" vs.toArray 0)).get? s1.heap.objs.size = some (seqObj "list" vs.toArray 0) := Heap.get?_push_size _ rfl
  refine wpAny_bind (wpAny_holding (wpAny_call_entry slot_list_sort ⟨_, at1, rfl⟩ entry_list_sort (list_sort_treeK strKind_oneLt at1 hS.keysOf (fun v₁ v₂ rest e => keyKind_strs (by rw [← e]; exact hS)) l64 fun st hp hs => ⟨_, rfl, ?_⟩) (args_list_sort _)))
  obtain ⟨zs, h1, h2, h3⟩ := sorted_out_str hS hp hs
  obtain ⟨c, hc⟩ := sortedHeap_at (vs := vs) (out := (arrOf st).map (·.2)) at1
  have pz := h2.trans ps
  refine wpAny_pure ⟨_, rfl, fin _ s1.heap.objs.size _ c zs (fun b u e => ?_) g1 o1 z1 hc h1 h3 (pz.nodup_iff.mpr r.nd) (fun x => ?_) (by rw [pz.length_eq, List.length_map, Array.length_toList]; exact r.few)⟩
  · have q := k1 b u e
    have lt := Heap.lt_size q
    show (sortedHeap (s1.heap.push (seqObj "list" vs.toArray 0)) s1.heap.objs.size vs _).get? b = some u
    rw [sortedHeap_old (Nat.ne_of_lt lt) (by rw [size_push']; exact Nat.lt_succ_of_lt lt)]
    exact Heap.get?_push_of_some _ q
  · rw [pz.mem_iff]
    exact r.mem x
end
section
variable {X : Cx}
/-- sorted(set(xs)), xs a list or a tuple of texts -/
def tSrtSet (K : PySem.W.Frag) (ta : TE) : TE := fun σ H Q => ta σ H fun x H1 => ∃ (l : Addr) (xs : List Str), x = .ref l ∧ (SqL K H1 l (xs.map V.str) ∨ SqT K H1 l (xs.map V.str)) ∧ xs.length < 64 ∧
  ∀ (ys : List Str) (p : Addr), sortedS ys = true → ys.Nodup → (∀ x, x ∈ ys ↔ x ∈ xs) → H1 p = none → Q (.ref p) (upd H1 p (.lst (ys.map V.str)))
theorem pe_srtSet {a : Expr} {ta : TE} {p p2 q pos : Pos} (hg : Gl X "sorted") (hm : X.mg "sorted" = none) (hg2 : Gl X "set") (hm2 : X.mg "set" = none) (ha : PE X a ta) (calm : X.calm = true := by rfl)
    (na : starEach [a] X.env = (false, eval a X.env) :: starEach [] X.env := by rfl) : PE X (.Call (.Name "sorted" p) [.Call (.Name "set" p2) [a] [] q] [] pos) (tSrtSet X.K ta) := by
  refine ⟨fun pins s σ H Q I h => Call_ (ld_blt I hg hm (by decide +kernel : bootBuiltins "sorted" = some (.builtin "sorted")) ?_)⟩
  refine PyProof.Rows.callWith_builtin1 (PyProof.Rows.args_cons (Call_ (ld_blt I hg2 hm2 boot_set ?_)) rfl) rfl rfl
  refine PyProof.Rows.callWith_type1 (PyProof.Rows.args_cons (thn (ha.run pins s σ H _ I h) fun v s1 ⟨x, H1, I1, r1, q1⟩ => PyProof.Rows.args_nil ?_) na) na rfl
  obtain ⟨l, xs, rfl, sq, few, q1⟩ := q1
  cases r1
  have hd := I1.ok.hd calm
  have go : ∀ (s2 : Shared), Inv X pins σ H1 s2 → Txs X.prog X.w s2.heap s1.heap.objs.size xs → wpAny (model X.prog X.w) X.A (call (.builtin "sorted") [.ref s1.heap.objs.size]) (EP X pins σ Q) X.xe s2 := by
    intro s2 I2 R
    refine sorted_txs R hd few fun s3 p out c ys k g o hp hg hi hs hn hm hl => ?_
    have np : H1 p = none := I2.hok.fresh hp
    have len : (ys.map V.str).length ≤ sizeLine := by
      rw [List.length_map, sizeLine_eq]
      omega
    have J : Inv X pins σ (upd H1 p (.lst (ys.map V.str))) { s2 with heap := s3.heap, gens := s3.gens, drawn := s3.drawn, toks := s3.toks } :=
      I2.call (ch := []) (Un.laid k hp np) (I2.hok.laid k hp ⟨len, out.toList, c, vals_of_strs hi, hg⟩) (by rw [g]; exact I2.bare) (fun _ z => nomatch z)
    have e : s3 = { s2 with heap := s3.heap, gens := s3.gens, drawn := s3.drawn, toks := s3.toks } := by
      cases s3
      cases s2
      cases o
      rfl
    rw [e]
    exact ⟨.ref p, _, J, rfl, q1 ys p hs hn hm np⟩
  have kp : ∀ (h2 : Heap) (tk : Nat), (∀ b o, s1.heap.get? b = some o → h2.get? b = some o) → Inv X pins σ H1 { s1 with heap := h2, toks := tk } := fun h2 tk keep => I1.kept fun b o e => keep b o e
  rcases sq with sq | sq
  · obtain ⟨its, r, pl, _⟩ := I1.list sq
    obtain ⟨ol, nl, gl, cl, _, dl⟩ := pl
    exact set_of_list hd ⟨ol, gl, cl, nl, dl⟩ (by simpa using strsAre_of r) (by unfold scanBound; omega) fun h2 tk R keep => PyProof.Rows.args_nil (go _ (kp h2 tk keep) R)
  · obtain ⟨its, r, pl, _⟩ := I1.tuple sq
    exact set_of_tuple hd pl (by simpa using strsAre_of r) (by unfold scanBound; omega) fun h2 tk R keep => PyProof.Rows.args_nil (go _ (kp h2 tk keep) R)
end
end Xs

/-! v == text, for any value of data. -/
namespace Gy
open PySem PySem.Spec PyProof.Rows L2 Xt
theorem dict_no_str (l : Addr) (es : Array DictEntry) (ep : Nat) (dd : Option Addr) (sl : Array (Option Value)) (b : Str) (u : Tok) :
    Meets (Builtin.«dict.__eq__» ⟨[.ref l, .str b u], []⟩) (fun _ R s => s.heap.get? l = some ⟨.type "dict", dd, .dict es ep, sl⟩ ∧ R (.ok (.ret .notImplemented)) s) := by
  refine .of_wp fun prog w A R s h => ?_
  obtain ⟨hp, g, d, tk, os⟩ := s
  obtain ⟨hl, h⟩ := h
  have f1 : isSubtype (.type "str") (.type "dict") = pure false := by rw [isSubtype_type]; kernel_rfl
  wp_walk using wpAny_loadPart' hl, wpAny_load hl
  exact ⟨_, rfl, h⟩
theorem str_no_dict (l : Addr) (es : Array DictEntry) (ep : Nat) (dd : Option Addr) (sl : Array (Option Value)) (b : Str) (u : Tok) :
    Meets (Builtin.«str.__eq__» ⟨[.str b u, .ref l], []⟩) (fun _ R s => s.heap.get? l = some ⟨.type "dict", dd, .dict es ep, sl⟩ ∧ R (.ok (.ret .notImplemented)) s) := by
  refine .of_wp fun prog w A R s h => ?_
  obtain ⟨hp, g, d, tk, os⟩ := s
  obtain ⟨hl, h⟩ := h
  wp_walk using wpAny_loadPart' hl, wpAny_load hl
  exact ⟨_, rfl, h⟩
theorem rc_dict_str {A : Around} {s : Shared} {l : Addr} {o : Obj} {es : Array DictEntry} {ep : Nat} (b : Str) (u : Tok) (ho : s.heap.get? l = some o) (hc : o.cls = .type "dict") (hd : o.data = .dict es ep) (hu : A.units < cLine)
    {prog : Program} {w : World} {E Q : Value → Shared → Prop} (h : Q (.bool false) s) : wpAny (model prog w) A (richCompare .Eq (.ref l) (.str b u)) Q E s := by
  obtain ⟨cls, dd, dat, sl⟩ := o
  dsimp only at hc hd
  subst hc hd
  refine SeqAt.rc_eq_decline_or (k := false) ⟨_, ho, rfl⟩ (typeIs_str s b u) (by decide) F.sub_str_dict F.slot_dict_eq F.slot_str_eq_refl ?_ ?_ ?_ (.inr hu) h
  · exact fun _ q => call_meets F.slot_dict_eq ⟨_, ho, rfl⟩ F.entry_dict_eq (F.args_dict_eq_2 _ _) (dict_no_str l es ep dd sl b u) ⟨ho, q⟩
  · exact fun _ q => call_meets F.slot_str_eq_refl (typeIs_str s b u) F.entry_str_eq (F.args_str_eq_2 _ _) (str_no_dict l es ep dd sl b u) ⟨ho, q⟩
  · exact fun _ q => wpAny_of_eq (rfl : isSame (.ref l) (.str b u) = pure false) q
/-- whether it is this text -/
def isTx (x : Str) : PyData → Bool
  | .str y => decide (V.str y = V.str x)
  | _ => false
def rEqS (K : PySem.W.Frag) : R2 := fun a b H Q => ∃ (d : PyData) (x : Str), b = .str x ∧ Dn K H a d ∧ Q (.bl (isTx x d)) H
theorem op_eqS {X : Cx} (hu : X.A.units < cLine) : OpR X (compareOp .Eq) (rEqS X.K) := by
  intro pins s σ H a b v u Q I rx ry h
  obtain ⟨d, x, rfl, dn, q⟩ := h
  cases dn with
  | non => exact op_eq pins s σ H _ _ v u Q I rx ry ⟨rfl, q⟩
  | bl c => exact op_eq pins s σ H _ _ v u Q I rx ry ⟨rfl, q⟩
  | int i => exact op_eq pins s σ H _ _ v u Q I rx ry ⟨rfl, q⟩
  | str y => exact op_eq pins s σ H _ _ v u Q I rx ry ⟨rfl, q⟩
  | lst h1 _ =>
    cases rx
    obtain ⟨t, rfl⟩ := ry
    obtain ⟨its, _, hl, _⟩ := I.list (SqL.of h1)
    exact SeqAt.RcAt.list_str x t hl.isList hu _ _ _ _ ⟨.bl false, H, I, rfl, q⟩
  | tup h1 _ =>
    cases rx
    obtain ⟨t, rfl⟩ := ry
    obtain ⟨its, _, ht, _⟩ := I.tuple h1.sq
    exact SeqAt.RcAt.tuple_str x t ht hu _ _ _ _ ⟨.bl false, H, I, rfl, q⟩
  | dic h1 =>
    cases rx
    obtain ⟨t, rfl⟩ := ry
    obtain ⟨_, o, es, ep, g1, g2, g3, _, _⟩ := dict_at I h1
    exact rc_dict_str x t g1 g2 g3 hu ⟨.bl false, H, I, rfl, q⟩
  | dic1 h1 =>
    cases rx
    obtain ⟨t, rfl⟩ := ry
    obtain ⟨_, o, es, ep, _, _, _, g1, g2, g3, _, _, _, _⟩ := dict_at1 I h1
    exact rc_dict_str x t g1 g2 g3 hu ⟨.bl false, H, I, rfl, q⟩
end Gy

/-! v not in a tuple of texts, for any value of data. -/
namespace Gy
open PySem PySem.Spec PyProof.Rows L2 Xt
theorem rc_str_dict {A : Around} {s : Shared} {l : Addr} {o : Obj} {es : Array DictEntry} {ep : Nat} (b : Str) (u : Tok) (ho : s.heap.get? l = some o) (hc : o.cls = .type "dict") (hd : o.data = .dict es ep) (hu : A.units < cLine)
    {prog : Program} {w : World} {E Q : Value → Shared → Prop} (h : Q (.bool false) s) : wpAny (model prog w) A (richCompare .Eq (.str b u) (.ref l)) Q E s := by
  obtain ⟨cls, dd, dat, sl⟩ := o
  dsimp only at hc hd
  subst hc hd
  refine SeqAt.rc_eq_decline_or (k := false) (typeIs_str s b u) ⟨_, ho, rfl⟩ (by decide) F.sub_dict_str F.slot_str_eq F.slot_dict_eq_refl ?_ ?_ ?_ (.inr hu) h
  · exact fun _ q => call_meets F.slot_str_eq (typeIs_str s b u) F.entry_str_eq (F.args_str_eq_2 _ _) (str_no_dict l es ep dd sl b u) ⟨ho, q⟩
  · exact fun _ q => call_meets F.slot_dict_eq_refl ⟨_, ho, rfl⟩ F.entry_dict_eq (F.args_dict_eq_2 _ _) (dict_no_str l es ep dd sl b u) ⟨ho, q⟩
  · exact fun _ q => wpAny_of_eq (rfl : isSame (.str b u) (.ref l) = pure false) q
theorem eq_str_dict {A : Around} {s : Shared} {l : Addr} {o : Obj} {es : Array DictEntry} {ep : Nat} (b : Str) (u : Tok) (ho : s.heap.get? l = some o) (hc : o.cls = .type "dict") (hd : o.data = .dict es ep) (hu : A.units < cLine) : SeqAt.EqAt A s (.str b u) (.ref l) false := fun prog w E Q h => by
  unfold eqBool
  refine wpAny_holding ?_
  refine wpAny_ite_split (fun hab => absurd (eq_of_beq hab) nofun) (fun _ => ?_)
  exact wpAny_bind (rc_str_dict b u ho hc hd hu (wpAny_truthy_bool h))
/-- whether it is one of these texts -/
def memD (xs : List Str) : PyData → Bool
  | .str x => inV (.str x) (xs.map V.str)
  | _ => false
def rNotInT (K : PySem.W.Frag) : R2 := fun a b H Q => ∃ (p : Addr) (d : PyData) (xs : List Str), b = .ref p ∧ SqT K H p (xs.map V.str) ∧ Dn K H a d ∧ Q (.bl (!memD xs d)) H
theorem strs_of : ∀ {xs : List Str} {us : List Value}, Vals (xs.map V.str) us → ∀ u ∈ us, ∃ a t, u = .str a t
  | [], _, .nil => fun u hu => by cases hu
  | x :: xs, _, .cons r t => fun u hu => by
    obtain ⟨tk, rfl⟩ := r
    rcases List.mem_cons.mp hu with rfl | hu
    · exact ⟨_, _, rfl⟩
    · exact strs_of t u hu
theorem flats (xs : List Str) : (xs.map V.str).all flatV = true := by
  induction xs with
  | nil => rfl
  | cons x xs ih => rw [List.map_cons, List.all_cons, ih]; rfl
theorem inV_no {v : V} (h : ∀ x, eqV (.str x) v = false) (xs : List Str) : inV v (xs.map V.str) = false := by
  unfold inV
  rw [List.any_map, List.any_eq_false]
  intro x _
  show ¬ eqV (.str x) v = true
  rw [h]
  exact Bool.false_ne_true
theorem op_notInT {X : Cx} (hu : X.A.units + 64 < cLine) : OpR X (compareOp .NotIn) (rNotInT X.K) := by
  intro pins s σ H a b v u Q I rx ry h
  obtain ⟨p, d, xs, rfl, hs, dn, q⟩ := h
  have hu1 : X.A.in1.units < cLine := by
    have : X.A.in1.units = X.A.units + 1 := rfl
    omega
  have go : (∀ (b : Str) (t : Tok), SeqAt.EqAt X.A.in1 s (.str b t) v false) → (Q (.bl true) H) → wpAny (model X.prog X.w) X.A (compareOp .NotIn v u) (EP X pins σ Q) X.xe s := fun he q => by
    cases ry
    obtain ⟨its, r, pl, hz⟩ := I.tuple hs
    refine SeqAt.notIn_tupleAt (fun _ => false) pl (fun w hw => ?_) ⟨.bl true, H, I, ?_, q⟩
    · obtain ⟨b, t, rfl⟩ := strs_of r w (by simpa using hw)
      exact he b t
    · have : (its.toArray.any fun _ => false) = false := by simp
      rw [this]
      rfl
  have fl : flatV a = true → Q (.bl (!inV a (xs.map V.str))) H → _ := fun fx q => op_notIn_seq pins s σ H a (.ref p) v u Q I rx ry ⟨p, _, rfl, .inr hs, fx, flats xs, q⟩
  cases dn with
  | non => exact fl rfl (by rw [inV_no (fun _ => rfl)]; exact q)
  | bl c => exact fl rfl (by rw [inV_no (fun _ => rfl)]; exact q)
  | int i => exact fl rfl (by rw [inV_no (fun _ => rfl)]; exact q)
  | str y => exact fl rfl q
  | lst h1 _ =>
    cases rx
    obtain ⟨its, _, hl, _⟩ := I.list (SqL.of h1)
    exact go (fun b t => SeqAt.EqAt.str_list b t hl.isList hu1) q
  | tup h1 _ =>
    cases rx
    obtain ⟨its, _, ht, _⟩ := I.tuple h1.sq
    exact go (fun b t => SeqAt.EqAt.str_tuple b t ht hu1) q
  | dic h1 =>
    cases rx
    obtain ⟨_, o, es, ep, g1, g2, g3, _, _⟩ := dict_at I h1
    exact go (fun b t => eq_str_dict b t g1 g2 g3 hu1) q
  | dic1 h1 =>
    cases rx
    obtain ⟨_, o, es, ep, _, _, _, g1, g2, g3, _, _, _, _⟩ := dict_at1 I h1
    exact go (fun b t => eq_str_dict b t g1 g2 g3 hu1) q
def rNotInL (K : PySem.W.Frag) : R2 := fun a b H Q => ∃ (p : Addr) (d : PyData) (xs : List Str), b = .ref p ∧ SqL K H p (xs.map V.str) ∧ Dn K H a d ∧ Q (.bl (!memD xs d)) H
/-- whether any value is none of the texts of a list -/
theorem op_notInL {X : Cx} (hu : X.A.units + 64 < cLine) : OpR X (compareOp .NotIn) (rNotInL X.K) := by
  intro pins s σ H a b v u Q I rx ry h
  obtain ⟨p, d, xs, rfl, hs, dn, q⟩ := h
  have hu1 : X.A.in1.units < cLine := by
    have : X.A.in1.units = X.A.units + 1 := rfl
    omega
  have go : (∀ (b : Str) (t : Tok), SeqAt.EqAt X.A.in1 s (.str b t) v false) → (Q (.bl true) H) → wpAny (model X.prog X.w) X.A (compareOp .NotIn v u) (EP X pins σ Q) X.xe s := fun he q => by
    cases ry
    obtain ⟨its, r, pl, hz⟩ := I.list hs
    refine SeqAt.notIn_listAt (fun _ => false) pl.isList (fun w hw => ?_) ⟨.bl true, H, I, ?_, q⟩
    · obtain ⟨b, t, rfl⟩ := strs_of r w (by simpa using hw)
      exact he b t
    · have : (its.toArray.any fun _ => false) = false := by simp
      rw [this]
      rfl
  have fl : flatV a = true → Q (.bl (!inV a (xs.map V.str))) H → _ := fun fx q => op_notIn_seq pins s σ H a (.ref p) v u Q I rx ry ⟨p, _, rfl, .inl hs, fx, flats xs, q⟩
  cases dn with
  | non => exact fl rfl (by rw [inV_no (fun _ => rfl)]; exact q)
  | bl c => exact fl rfl (by rw [inV_no (fun _ => rfl)]; exact q)
  | int i => exact fl rfl (by rw [inV_no (fun _ => rfl)]; exact q)
  | str y => exact fl rfl q
  | lst h1 _ =>
    cases rx
    obtain ⟨its, _, hl, _⟩ := I.list (SqL.of h1)
    exact go (fun b t => SeqAt.EqAt.str_list b t hl.isList hu1) q
  | tup h1 _ =>
    cases rx
    obtain ⟨its, _, ht, _⟩ := I.tuple h1.sq
    exact go (fun b t => SeqAt.EqAt.str_tuple b t ht hu1) q
  | dic h1 =>
    cases rx
    obtain ⟨_, o, es, ep, g1, g2, g3, _, _⟩ := dict_at I h1
    exact go (fun b t => eq_str_dict b t g1 g2 g3 hu1) q
  | dic1 h1 =>
    cases rx
    obtain ⟨_, o, es, ep, _, _, _, g1, g2, g3, _, _, _, _⟩ := dict_at1 I h1
    exact go (fun b t => eq_str_dict b t g1 g2 g3 hu1) q
end Gy

/-! Own __len__, own __repr__, a list in an f-string by !r; dict comprehensions over any walk; pairs of texts sorted. -/
namespace Xo
open PySem PySem.Spec PyProof.Rows L2 Gy Xt
section
variable {X : Cx} {pins : List (Addr × Obj)} {σ : L2.St} {H : Hp} {s : Shared}
theorem env_in1 (I : Inv X pins σ H s) : Env0 X.prog X.w X.K X.mg X.base X.A.in1 X.stack s H := by
  have e := I.env0
  exact ⟨e.frames, e.mod, e.bs, e.bsz, e.funs, e.frf, e.hok, e.bare⟩
/-- len(o), o of an own class with a __len__ -/
def rLenO (C : Addr) (sp : Sp) (E : XK) : List V → Hp → VK → Prop := fun xs H Q => ∃ a dx fs, xs = [.ref a] ∧ H a = some (.ins C dx fs) ∧ sp [.ref a] H (fun v H' => ∃ n : Nat, v = .int (n : Int) ∧ n < 9223372036854775808 ∧ Q (.int (n : Int)) H') E
theorem call_lenO {CX : CXT} {k : Nat} {C f : Addr} {fd : FuncData} {ps : List Str} {sp : Sp} {E : XK} (F : FnOk X.prog X.w X.K X.mg X.base CX k f fd ps sp) (hr : Room (k + 1) X.A)
    (hm : Meth X.K C "__len__" f) (hb : Binds X.K fd ps []) (hx : Passes CX X E) : CallR X (.builtin "len") (rLenO C sp E) := by
  intro pins s σ H xs us Q I r h
  obtain ⟨a, dx, fs, rfl, ha, q⟩ := h
  obtain ⟨u, rfl, ru⟩ := vals1 r
  cases ru
  obtain ⟨mA, J, _⟩ := ins_get I.hok ha
  obtain ⟨od, J, _⟩ := J.look
  refine Calls.call_function_entry kind_len plain_len entry_len (args_len1 _) ?_
  unfold Builtin.«len»
  refine wpAny_bind (m := oneArg "len" _) (wpAny_pure ?_)
  refine wpAny_bind (m := callSpecial? (.ref a) (Str.ofString "__len__")) (PySem.W.special_fn I.kIn J hm.at_ (beq_iff_eq.mp hm.fn) ?_)
  have hl := F.len _ _ _ _ q
  refine wpAny_call (codeAny_mono (F.run X.A.in1 X.stack s H ⟨[.ref a], []⟩ [.ref a] [.ref a] _ E hr.in1 (env_in1 I) (by
    have := hb s [.ref a] I.kIn (by simpa using hl)
    simpa using this) (.cons rfl .nil) q) fun r s' hq => ?_)
  cases r with
  | error e => exact hx pins σ H s e s' I hq
  | ok fl =>
    cases fl with
    | ret w =>
      obtain ⟨z, H', I', rz, n, rfl, hn, qq⟩ := I.after hq
      obtain ⟨t, rfl⟩ := rz
      refine wpAny_bind (wpAny_holding (wpAny_pure ?_))
      refine wpAny_bind (wpAny_letGo ?_)
      show wpAny _ _ (if (n : Int) < 0 then _ else _) _ _ _
      rw [if_neg (by omega)]
      show wpAny _ _ (if (n : Int) ≥ 2 ^ 63 then _ else _) _ _ _
      rw [if_neg (by omega)]
      exact wpAny_bind (wpAny_mkInt (wpAny_pure ⟨_, rfl, .int n, H', I'.tok _, ⟨_, rfl⟩, qq⟩))
    | next => exact False.elim hq
    | brk => exact False.elim hq
    | cont => exact False.elim hq
/-- repr(o), o of an own class with a __repr__ -/
def rReprO (C : Addr) (sp : Sp) (E : XK) : List V → Hp → VK → Prop := fun xs H Q => ∃ a dx fs, xs = [.ref a] ∧ H a = some (.ins C dx fs) ∧ sp [.ref a] H (fun v H' => ∃ t : Str, v = .str t ∧ Q (.str t) H') E
theorem call_reprO {CX : CXT} {k : Nat} {C f : Addr} {fd : FuncData} {ps : List Str} {sp : Sp} {E : XK} (F : FnG X.prog X.w X.K X.mg X.base CX k f fd ps sp) (gd : X.A.guards = some []) (hr : Room (k + 1) X.A)
    (hm : Meth X.K C "__repr__" f) (hb : Binds X.K fd ps []) (hx : Passes CX X E) : CallR X (.builtin "repr") (rReprO C sp E) := by
  intro pins s σ H xs us Q I r h
  obtain ⟨a, dx, fs, rfl, ha, q⟩ := h
  obtain ⟨u, rfl, ru⟩ := vals1 r
  cases ru
  obtain ⟨mA, J, _⟩ := ins_get I.hok ha
  obtain ⟨od, J, _⟩ := J.look
  refine Calls.call_function_entry PySem.F.kind_repr PySem.F.plain_repr PySem.F.entry_repr (PySem.F.args_repr1 _) ?_
  unfold Builtin.«repr»
  refine wpAny_bind (m := oneArg "repr" _) (wpAny_pure ?_)
  refine wpAny_bind (m := cRoomFor _ _) (wpAny_cRoomFor hr.in1.units0 ?_)
  refine wpAny_bind (m := specialOf (.ref a) (Str.ofString "__repr__")) (wpAny_bind (J.type.here ((PySem.W.looks_findIn I.kIn hm.at_).here ?_)))
  show wpAny _ _ (if (some (Value.ref f)).isNone = true then _ else _) _ _ _
  rw [if_neg (by simp)]
  refine wpAny_bind (m := callSpecialIfBound? (.ref a) (Str.ofString "__repr__") _) (PySem.W.ifBound_K I.kIn J hm.at_ hm.fn ?_)
  have hl := F.ln q
  refine wpAny_call (codeAny_mono (F.go (A := X.A.in1) (outer := X.stack) (s := s) (args := ⟨[.ref a], []⟩) (us := [.ref a]) (vs := [.ref a]) gd hr.in1 (env_in1 I) (by
    have := hb s [.ref a] I.kIn (by simpa using hl)
    simpa using this) (.cons rfl .nil) q) fun r s' hq => ?_)
  cases r with
  | error e => exact hx pins σ H s e s' I hq
  | ok fl =>
    cases fl with
    | ret w =>
      obtain ⟨z, H', I', rz, n, rfl, qq⟩ := I.after hq
      obtain ⟨t, rfl⟩ := rz
      refine wpAny_bind (wpAny_isInstance (T := "str") (b := true) (typeIs_str _ _ _) isSubtype_str_str ?_)
      first
        | exact wpAny_pure ⟨_, rfl, .str n, H', I', ⟨_, rfl⟩, qq⟩
        | (rw [if_pos rfl]; exact wpAny_pure ⟨_, rfl, .str n, H', I', ⟨_, rfl⟩, qq⟩)
        | (simp only [if_true]; exact wpAny_pure ⟨_, rfl, .str n, H', I', ⟨_, rfl⟩, qq⟩)
    | next => exact False.elim hq
    | brk => exact False.elim hq
    | cont => exact False.elim hq
/-- {e!r}, a list of data -/
def tFmtL (K : PySem.W.Frag) (te : TE) : TE := fun σ H Q => te σ H fun x H1 => ∃ a xs ds, x = .ref a ∧ H1 a = some (.lst xs) ∧ Dns K H1 xs ds ∧ PyData.showableAll ds = true ∧ PyData.depthAll ds ≤ 50 ∧ (PyData.shown (.list ds)).length ≤ sizeLine ∧ Q (.str (PyData.shown (.list ds))) H1
theorem pe_fmtL {e : Expr} {te : TE} {pos : Pos} (hg : X.A.guards = some []) (hu : X.A.units + 70 < cLine) (he : PE X e te) : PE X (.FormattedValue e 114 none pos) (tFmtL X.K te) := by
  refine ⟨fun pins s σ H Q I h => ?_⟩
  refine wpAny_FormattedValue_repr (thn (he.run pins s σ H _ I h) fun v s1 hv => ?_)
  obtain ⟨x, H1, I1, r1, a, ys, ds, rfl, h, ha, sh, dp, len, q⟩ := hv
  cases r1
  have len' : (listText (PyData.shownAll ds)).length ≤ sizeLine := by simpa only [PyData.shown] using len
  have fin : ∀ (h' : Heap) (x : Tok) (tk : Nat), (∀ b o, s1.heap.get? b = some o → h'.get? b = some o) → wpAny (model X.prog X.w) X.A (formatField (.str (PyData.shown (.list ds)) x) Str.empty) (EP X pins σ Q) X.xe { s1 with heap := h', toks := tk } := fun h' x tk hk =>
    wpAny_formatField_str ⟨.str _, H1, I1.kept hk, ⟨x, rfl⟩, q⟩ ⟨.str _, H1, (I1.kept hk).tok _, ⟨_, rfl⟩, q⟩ len
  obtain ⟨its, rv, ⟨o, n, g1, g2, _, g3⟩, _⟩ := I1.list (SqL.of h)
  obtain ⟨as, bs, rd, at_, sw⟩ := Dns.shows I1 ha rv sh fun t ht => Nat.le_trans (listText_mem_le ht) len'
  have out : a ∉ bs := not_mem_of_deeper (.list g1 g2 g3 rd) (by simp only [PyData.depth]; omega) at_
  match its, rv, g3, rd, sw with
  | [], rv, g3, rd, _ =>
    cases rd
    refine wpAny_pyReprObj_list_empty ⟨o, g1, g2⟩ (by omega) g1 g3 ?_
    have z := fin s1.heap s1.toks (s1.toks + 1) (fun _ _ e => e)
    simpa only [PyData.shown, PyData.shownAll, listText_nil] using z
  | x :: rest, _, g3, _, sw =>
    refine wpAny_pyReprObj_listK g1 g2 g3 out (by simpa using sw.length_eq) (fun i y e => sw.item i y (by simpa using e)) (g := []) hg (fun b _ => Clear.nil b) (d := PyData.depthAll ds) ?_ (fun _ _ e => e) (fun h' u tk hk => fin h' u tk hk) len'
    omega
end
/-- a dict comprehension over a walk -/
theorem dc_it {J : It} {n : Nat} {G : Hp → Prop} {Y : Nat → Hp → V → Hp → Prop} (w : Walk J n G Y) {g : TG} {tt : TT} {tk tv : TE} {vs : List Nat} {σ : L2.St} {H1 : Hp} {D : Addr} {Qd : Hp → Prop} (Pv : Nat → Hp → Prop) (h0 : Pv 0 (upd H1 D (.dK []))) (hG : ∀ i H, i ≤ n → Pv i H → G H)
    (hs : ∀ i x H H', i < n → Pv i H → Y i H x H' → g x (wipe σ vs) H' fun σ2 H2 => wipe σ2 vs = wipe σ vs ∧ tt σ2 H2 fun b H3 =>
      if b = true then tk σ2 H3 fun y H4 => tv σ2 H4 fun z H5 => ∃ kvs k, y = kV k ∧ H5 D = some (.dK kvs) ∧ kvs.length < sizeLine ∧ Pv (i + 1) (upd H5 D (.dK (putK kvs k z))) else Pv (i + 1) H3) (hd : ∀ H, Pv n H → Qd H) :
    ∃ W : Nat → Nat → Hp → Prop, (∃ m, W 0 m (upd H1 D (.dK []))) ∧ ∀ i m H, W i m H →
      (J.stop i H ∧ Qd H) ∨ (J.go i H ∧ ∃ Nx : Hp → Prop, (∀ H', Nx H' → ∃ m', m' < m ∧ W (i + 1) m' H') ∧ ∀ x H', J.yld i H x H' → g x (wipe σ vs) H' fun σ2 H2 => wipe σ2 vs = wipe σ vs ∧ tt σ2 H2 fun b H3 =>
        if b = true then tk σ2 H3 fun y H4 => tv σ2 H4 fun z H5 => ∃ kvs k, y = kV k ∧ H5 D = some (.dK kvs) ∧ kvs.length < sizeLine ∧ Nx (upd H5 D (.dK (putK kvs k z))) else Nx H3) := by
  refine ⟨fun i m H => m = n - i ∧ i ≤ n ∧ Pv i H, ⟨n, by simp, Nat.zero_le _, h0⟩, ?_⟩
  rintro i m H ⟨rfl, hi, p⟩
  have q := hG i H hi p
  by_cases hlt : i < n
  · refine .inr ⟨w.goes i H hlt q, Pv (i + 1), fun H' p' => ⟨n - (i + 1), by omega, rfl, hlt, p'⟩, fun x H' y => hs i x H H' hlt p (w.yields i H x H' hlt q y)⟩
  · have e : i = n := by omega
    subst e
    exact .inl ⟨w.stops H q, hd H p⟩
/-- the inner walk of a comprehension with two -/
theorem lc_in {J1 : It} {n : Nat} {G : Hp → Prop} {Y : Nat → Hp → V → Hp → Prop} (w : Walk J1 n G Y) {g1 : TG} {tt1 : TT} {te : TE} {vs1 : List Nat} {σ2 : L2.St} {H4 : Hp} {D : Addr} {Nx : Hp → Prop} (Pv : Nat → Hp → Prop) (h0 : Pv 0 H4) (hG : ∀ i H, i ≤ n → Pv i H → G H)
    (hs : ∀ i x H H', i < n → Pv i H → Y i H x H' → g1 x (wipe σ2 vs1) H' fun σ3 H5 => wipe σ3 vs1 = wipe σ2 vs1 ∧ tt1 σ3 H5 fun b H6 =>
      if b = true then te σ3 H6 fun y H7 => ∃ acc, H7 D = some (.lst acc) ∧ acc.length < sizeLine ∧ Pv (i + 1) (upd H7 D (.lst (acc ++ [y]))) else Pv (i + 1) H6) (hd : ∀ H, Pv n H → Nx H) :
    ∃ W1 : Nat → Nat → Hp → Prop, (∃ m, W1 0 m H4) ∧ ∀ j k H, W1 j k H →
      (J1.stop j H ∧ Nx H) ∨ (J1.go j H ∧ ∃ Nx1 : Hp → Prop, (∀ H', Nx1 H' → ∃ k', k' < k ∧ W1 (j + 1) k' H') ∧ ∀ x H', J1.yld j H x H' → g1 x (wipe σ2 vs1) H' fun σ3 H5 => wipe σ3 vs1 = wipe σ2 vs1 ∧ tt1 σ3 H5 fun b H6 =>
        if b = true then te σ3 H6 fun y H7 => ∃ acc, H7 D = some (.lst acc) ∧ acc.length < sizeLine ∧ Nx1 (upd H7 D (.lst (acc ++ [y]))) else Nx1 H6) := by
  refine ⟨fun i m H => m = n - i ∧ i ≤ n ∧ Pv i H, ⟨n, by simp, Nat.zero_le _, h0⟩, ?_⟩
  rintro i m H ⟨rfl, hi, p⟩
  have q := hG i H hi p
  by_cases hlt : i < n
  · refine .inr ⟨w.goes i H hlt q, Pv (i + 1), fun H' p' => ⟨n - (i + 1), by omega, rfl, hlt, p'⟩, fun x H' y => hs i x H H' hlt p (w.yields i H x H' hlt q y)⟩
  · have e : i = n := by omega
    subst e
    exact .inl ⟨w.stops H q, hd H p⟩
/-- the outer walk -/
theorem lc_out {J : It} {n : Nat} {G : Hp → Prop} {Y : Nat → Hp → V → Hp → Prop} (w : Walk J n G Y) {g g1 : TG} {tt tt1 : TT} {wi1 : TI} {te : TE} {vs vs1 : List Nat} {σ : L2.St} {H1 : Hp} {D : Addr} {Qd : Hp → Prop} (Pv : Nat → Hp → Prop) (h0 : Pv 0 (upd H1 D (.lst []))) (hG : ∀ i H, i ≤ n → Pv i H → G H)
    (hs : ∀ i x H H', i < n → Pv i H → Y i H x H' → g x (wipe σ vs) H' fun σ2 H2 => wipe σ2 vs = wipe σ vs ∧ tt σ2 H2 fun b H3 =>
      if b = true then wi1 σ2 H3 fun J1 H4 => ∃ W1 : Nat → Nat → Hp → Prop, (∃ m, W1 0 m H4) ∧ ∀ j k H, W1 j k H →
        (J1.stop j H ∧ Pv (i + 1) H) ∨ (J1.go j H ∧ ∃ Nx1 : Hp → Prop, (∀ H', Nx1 H' → ∃ k', k' < k ∧ W1 (j + 1) k' H') ∧ ∀ x H', J1.yld j H x H' → g1 x (wipe σ2 vs1) H' fun σ3 H5 => wipe σ3 vs1 = wipe σ2 vs1 ∧ tt1 σ3 H5 fun b H6 =>
          if b = true then te σ3 H6 fun y H7 => ∃ acc, H7 D = some (.lst acc) ∧ acc.length < sizeLine ∧ Nx1 (upd H7 D (.lst (acc ++ [y]))) else Nx1 H6)
      else Pv (i + 1) H3) (hd : ∀ H, Pv n H → Qd H) :
    ∃ W : Nat → Nat → Hp → Prop, (∃ m, W 0 m (upd H1 D (.lst []))) ∧ ∀ i m H, W i m H →
      (J.stop i H ∧ Qd H) ∨ (J.go i H ∧ ∃ Nx : Hp → Prop, (∀ H', Nx H' → ∃ m', m' < m ∧ W (i + 1) m' H') ∧ ∀ x H', J.yld i H x H' → g x (wipe σ vs) H' fun σ2 H2 => wipe σ2 vs = wipe σ vs ∧ tt σ2 H2 fun b H3 =>
        if b = true then wi1 σ2 H3 fun J1 H4 => ∃ W1 : Nat → Nat → Hp → Prop, (∃ m, W1 0 m H4) ∧ ∀ j k H, W1 j k H →
          (J1.stop j H ∧ Nx H) ∨ (J1.go j H ∧ ∃ Nx1 : Hp → Prop, (∀ H', Nx1 H' → ∃ k', k' < k ∧ W1 (j + 1) k' H') ∧ ∀ x H', J1.yld j H x H' → g1 x (wipe σ2 vs1) H' fun σ3 H5 => wipe σ3 vs1 = wipe σ2 vs1 ∧ tt1 σ3 H5 fun b H6 =>
            if b = true then te σ3 H6 fun y H7 => ∃ acc, H7 D = some (.lst acc) ∧ acc.length < sizeLine ∧ Nx1 (upd H7 D (.lst (acc ++ [y]))) else Nx1 H6)
        else Nx H3) := by
  refine ⟨fun i m H => m = n - i ∧ i ≤ n ∧ Pv i H, ⟨n, by simp, Nat.zero_le _, h0⟩, ?_⟩
  rintro i m H ⟨rfl, hi, p⟩
  have q := hG i H hi p
  by_cases hlt : i < n
  · refine .inr ⟨w.goes i H hlt q, Pv (i + 1), fun H' p' => ⟨n - (i + 1), by omega, rfl, hlt, p'⟩, fun x H' y => hs i x H H' hlt p (w.yields i H x H' hlt q y)⟩
  · have e : i = n := by omega
    subst e
    exact .inl ⟨w.stops H q, hd H p⟩
end Xo
/-! ### pairs of texts sorted -/
namespace Xp
open PySem PyProof.Rows Srt SrtO
def ltS (x y : Str) : Bool := decide (x.cps.toList < y.cps.toList)
theorem ltS_tri {x y : Str} (h1 : ltS x y = false) (h2 : ltS y x = false) : x = y := by
  have e : x.cps.toList = y.cps.toList := List.le_antisymm (List.not_lt.mp (of_decide_eq_false h2)) (List.not_lt.mp (of_decide_eq_false h1))
  cases x with
  | mk a =>
    cases y with
    | mk b =>
      have e' : a.toList = b.toList := e
      rw [Array.toList_inj.mp e']
theorem ltS_irr (x : Str) : ltS x x = false := decide_eq_false (List.lt_irrefl _)
theorem ltS_asym {x y : Str} (h : ltS x y = true) : ltS y x = false := decide_eq_false fun z => List.lt_irrefl _ (List.lt_trans (of_decide_eq_true h) z)
theorem ltS_trans {x y z : Str} (h1 : ltS x y = true) (h2 : ltS y z = true) : ltS x z = true := decide_eq_true (List.lt_trans (of_decide_eq_true h1) (of_decide_eq_true h2))
theorem ltS_ntr {x y z : Str} (h1 : ltS y x = false) (h2 : ltS z y = false) : ltS z x = false := by
  cases h : ltS z x with
  | false => rfl
  | true =>
    cases h3 : ltS x y with
    | true =>
      rw [ltS_trans h h3] at h2
      cases h2
    | false =>
      have := ltS_tri h1 h3
      subst this
      rw [h] at h2
      cases h2
/-- by the first, then by the second -/
def lexS (p q : Str × Str) : Bool := if p.1 = q.1 then ltS p.2 q.2 else ltS p.1 q.1
theorem lexS_swo {α : Type} (k : α → Str × Str) : Swo fun v u => lexS (k v) (k u) := by
  refine ⟨fun x y h => ?_, fun x y z h1 h2 => ?_⟩
  · skip
    unfold lexS at h ⊢
    by_cases e : (k x).1 = (k y).1
    · rw [if_pos e] at h
      rw [if_pos e.symm]
      exact ltS_asym h
    · rw [if_neg e] at h
      rw [if_neg fun z => e z.symm]
      exact ltS_asym h
  · skip
    unfold lexS at h1 h2 ⊢
    by_cases e1 : (k y).1 = (k x).1
    · by_cases e2 : (k z).1 = (k y).1
      · rw [if_pos e1] at h1
        rw [if_pos e2] at h2
        rw [if_pos (e2.trans e1)]
        exact ltS_ntr h1 h2
      · rw [if_neg e2] at h2
        rw [if_neg fun w => e2 (w.trans e1.symm), ← e1]
        exact h2
    · rw [if_neg e1] at h1
      by_cases e2 : (k z).1 = (k y).1
      · rw [if_neg fun w => e1 (e2.symm.trans w), e2]
        exact h1
      · rw [if_neg e2] at h2
        have h3 := ltS_ntr h1 h2
        by_cases e3 : (k z).1 = (k x).1
        · rw [e3] at h2
          exact absurd (ltS_tri h1 h2) e1
        · rw [if_neg e3]
          exact h3
def IsPr (h : Heap) (v : Value) (x y : Str) : Prop := ∃ a o t u n, v = .ref a ∧ h.get? a = some o ∧ o.cls = .type "tuple" ∧ o.data = .seq #[.str x t, .str y u] n
theorem IsPr.keeps {h h' : Heap} {v : Value} {x y : Str} (p : IsPr h v x y) (k : ∀ b o, h.get? b = some o → o.cls = .type "tuple" → h'.get? b = some o) : IsPr h' v x y := by
  obtain ⟨a, o, t, u, n, e, ho, hc, hd⟩ := p
  exact ⟨a, o, t, u, n, e, k a o ho hc, hc, hd⟩
theorem pr_firsts {h : Heap} : ∀ {vs : List Value}, (∀ v ∈ vs, ∃ x y, IsPr h v x y) → ∃ fs : List Value, PySem.W.KatTups h vs fs ∧ fs.length = vs.length ∧ ∀ f ∈ fs, ∃ x t, f = Value.str x t
  | [], _ => ⟨[], PySem.W.KatTups.nil, rfl, fun f hf => by simp at hf⟩
  | v :: vs, x => by
    obtain ⟨fs, k, hl, hi⟩ := pr_firsts (vs := vs) fun u hu => x u (List.mem_cons_of_mem _ hu)
    obtain ⟨y, z, a, o, t, u, n, rfl, ho, hc, hd⟩ := x v List.mem_cons_self
    refine ⟨.str y t :: fs, PySem.W.KatTups.cons ho hc hd rfl k, by rw [List.length_cons, List.length_cons, hl], fun f hf => ?_⟩
    rcases List.mem_cons.mp hf with rfl | hf
    · exact ⟨y, t, rfl⟩
    · exact hi f hf
section
variable {prog : Program} {w : World} {A : Around} {E : Value → Shared → Prop} {s : Shared}
theorem pr_cmp {vs : List Value} {k : Value → Str × Str} (hp : ∀ v ∈ vs, IsPr s.heap v (k v).1 (k v).2) : Cmp prog w A s (tuples' true) (fun p => p.1 ∈ vs) (lt2 fun v u => lexS (k v) (k u)) := by
  intro p q hm hm'
  have h1 := hp _ hm
  have h2 := hp _ hm'
  show wpAny (model prog w) A (keyLt' (tuples' true) p.1 q.1) (fun r s' => s' = s ∧ r = lexS (k p.1) (k q.1)) (fun _ _ => False) s
  unfold lexS
  generalize (k p.1).1 = x at h1 ⊢
  generalize (k p.1).2 = y at h1 ⊢
  generalize (k q.1).1 = x' at h2 ⊢
  generalize (k q.1).2 = y' at h2 ⊢
  obtain ⟨a, o, t, u, n, e, ho, hc, hd⟩ := h1
  obtain ⟨a', o', t', u', n', e', ho', hc', hd'⟩ := h2
  rw [e, e']
  refine PySem.W.kat_lt ho hd ho' hd' ?_
  show PySem.W.KatLex prog w A true (decide (2 < 2)) _ [(.str x t, .str x' t'), (.str y u, .str y' u')] 0 s
  refine PySem.W.kat_cons (SeqAt.EqAt.str_str x t x' t' prog w _ _ ?_)
  refine PySem.W.kat_go (fun e1 => ?_) (fun e1 => ?_)
  · have ex : x = x' := by simpa using e1
    refine PySem.W.kat_yes (PySem.W.kat_cons (SeqAt.EqAt.str_str y u y' u' prog w _ _ ?_))
    refine PySem.W.kat_go (fun e2 => ?_) (fun e2 => ?_)
    · have ey : y = y' := by simpa using e2
      have e3 : (if x = x' then ltS y y' else ltS x x') = false := by
        rw [if_pos ex, ey]
        exact ltS_irr _
      exact PySem.W.kat_yes (PySem.W.kat_nil ⟨rfl, e3.symm⟩)
    · have e3 : (if x = x' then ltS y y' else ltS x x') = ltS y y' := if_pos ex
      refine PySem.W.kat_no (PySem.W.kat_one _ _ (PyProof.Rows.lt_str ?_))
      exact (show s = s ∧ decide (y.cps.toList < y'.cps.toList) = (if x = x' then ltS y y' else ltS x x') from ⟨rfl, e3.symm⟩)
  · have ex : ¬ x = x' := by simpa using e1
    have e3 : (if x = x' then ltS y y' else ltS x x') = ltS x x' := if_neg ex
    exact PySem.W.kat_no (oneLt_str ⟨rfl, e3.symm⟩)
theorem pr_sortable {a : Addr} {vs : List Value} {k : Value → Str × Str} (h0 : 0 < vs.length) (hp : ∀ v ∈ vs, IsPr s.heap v (k v).1 (k v).2) (ha : ∀ o, s.heap.get? a = some o → o.cls ≠ .type "tuple") : SortableO prog w A s a vs fun v u => lexS (k v) (k u) := by
  intro h' keep
  have hp' : ∀ v ∈ vs, IsPr h' v (k v).1 (k v).2 := fun v hm => (hp v hm).keeps fun b o e c => keep b o (fun z => by subst z; exact ha o e c) e
  obtain ⟨fs, h1, h2, h3⟩ := pr_firsts fun v hm => ⟨_, _, hp' v hm⟩
  refine ⟨tuples' true, fun Q E hq => ?_, pr_cmp hp'⟩
  refine PySem.W.kat_kind (T := .type "str") h1 (by omega) (fun f hm => ?_) (by rfl) ?_
  · obtain ⟨x, t, rfl⟩ := h3 f hm
    exact PySem.W.Looks.now
  · have e : (Value.type "str" != Value.type "tuple") = true := by first | decide +kernel | rfl | decide
    rw [e]
    exact hq
theorem sorted_prs {l : Addr} {vs : List Value} {k : Value → Str × Str} {Q : Value → Shared → Prop} (hl : s.heap.IsList l vs.toArray) (hz : vs.length ≤ sizeLine) (hp : ∀ v ∈ vs, IsPr s.heap v (k v).1 (k v).2)
    (h : ∀ (h' : Heap) (d : Addr) (out : List Value), Srtd (fun v u => lexS (k v) (k u)) out → Stb (fun v u => lexS (k v) (k u)) out vs → (∀ b o, s.heap.get? b = some o → h'.get? b = some o) → s.heap.objs.size ≤ d → (∃ n, h'.get? d = some (seqObj "list" out.toArray n)) → Q (.ref d) { s with heap := h' }) :
    wpAny (model prog w) A (call (.builtin "sorted") [.ref l]) Q E s := by
  refine sorted_ord (lexS_swo k) hl hz (fun h2 h₁ a ha kk => ?_) fun out hs hb => ?_
  · refine pr_sortable (s := { s with heap := h₁ }) (by omega) (fun v hm => (hp v hm).keeps fun b o e _ => (kk b o e).2) fun o e => ?_
    have e' : some o = some (seqObj "list" vs.toArray 0) := e.symm.trans ha
    cases e'
    intro c
    exact absurd (Value.type.inj c) (by decide)
  · exact h _ _ out hs hb (fun b o e => sortedAll_old e) (Nat.le_succ _) (sortedAll_at s.heap vs out.toArray)
end
end Xp
namespace Xp
open PySem PySem.Spec PyProof.Rows L2 Gy Xt
/-- the pair of texts at a place -/
def prOf (H : Hp) : V → Str × Str
  | .ref t => match H t with
    | some (.frz _ (.tup [.str a, .str b])) => (a, b)
    | _ => ("", "")
  | _ => ("", "")
theorem prOf_of {H : Hp} {t : Addr} {a b : Str} (h : Tz H t [.str a, .str b]) : prOf H (.ref t) = (a, b) := by
  obtain ⟨o, e, _⟩ := h
  simp only [prOf, e]
/-- v is the pair p -/
def Pr (H : Hp) (v : V) (p : Str × Str) : Prop := ∃ t, v = .ref t ∧ Tz H t [.str p.1, .str p.2]
theorem Pr.of {H : Hp} {v : V} {p : Str × Str} (h : Pr H v p) : prOf H v = p := by
  obtain ⟨t, rfl, z⟩ := h
  exact prOf_of z
theorem Pr.same {H H' : Hp} {v : V} {p : Str × Str} (h : Pr H v p) (s : Same H H') : Pr H' v p := by
  obtain ⟨t, e, z⟩ := h
  exact ⟨t, e, z.same s⟩
inductive Prs (H : Hp) : List V → List (Str × Str) → Prop
  | nil : Prs H [] []
  | cons {v : V} {p : Str × Str} {vs : List V} {ps : List (Str × Str)} (h : Pr H v p) (t : Prs H vs ps) : Prs H (v :: vs) (p :: ps)
theorem Prs.same {H H' : Hp} {vs : List V} {ps : List (Str × Str)} (h : Prs H vs ps) (s : Same H H') : Prs H' vs ps := by
  induction h with
  | nil => exact .nil
  | cons h t ih => exact .cons (h.same s) ih
theorem Prs.map {H : Hp} {vs : List V} {ps : List (Str × Str)} (h : Prs H vs ps) : ps = vs.map (prOf H) := by
  induction h with
  | nil => rfl
  | cons h t ih => rw [List.map_cons, h.of, ← ih]
theorem Prs.mem {H : Hp} {vs : List V} {ps : List (Str × Str)} (h : Prs H vs ps) : ∀ v ∈ vs, Pr H v (prOf H v) := by
  induction h with
  | nil => exact fun v z => nomatch z
  | @cons v p vs ps h t ih =>
    intro x hx
    rcases List.mem_cons.mp hx with rfl | hx
    · rw [h.of]
      exact h
    · exact ih x hx
theorem Prs.of {H : Hp} : ∀ {vs : List V}, (∀ v ∈ vs, Pr H v (prOf H v)) → Prs H vs (vs.map (prOf H))
  | [], _ => .nil
  | v :: vs, h => .cons (h v List.mem_cons_self) (Prs.of fun x hx => h x (List.mem_cons_of_mem _ hx))
theorem Prs.length {H : Hp} {vs : List V} {ps : List (Str × Str)} (h : Prs H vs ps) : vs.length = ps.length := by
  rw [h.map, List.length_map]
theorem Prs.snoc {H : Hp} {vs : List V} {ps : List (Str × Str)} {v : V} {p : Str × Str} (h : Prs H vs ps) (g : Pr H v p) : Prs H (vs ++ [v]) (ps ++ [p]) := by
  induction h with
  | nil => exact .cons g .nil
  | cons h t ih => exact .cons h ih
theorem Prs.get {H : Hp} {vs : List V} {ps : List (Str × Str)} (h : Prs H vs ps) {i : Nat} {v : V} (e : vs[i]? = some v) : ∃ p, ps[i]? = some p ∧ Pr H v p := by
  induction h generalizing i with
  | nil => simp at e
  | @cons w p vs ps h t ih =>
    cases i with
    | zero =>
      simp only [List.getElem?_cons_zero, Option.some.injEq] at e
      subst e
      exact ⟨p, rfl, h⟩
    | succ i =>
      simp only [List.getElem?_cons_succ] at e
      exact ih e
def prD (p : Str × Str) : PyData := .tuple [.str p.1, .str p.2]
theorem Prs.dns {K : PySem.W.Frag} {H : Hp} {vs : List V} {ps : List (Str × Str)} (h : Prs H vs ps) : Dns K H vs (ps.map prD) := by
  induction h with
  | nil => exact .nil
  | cons h t ih =>
    obtain ⟨t, rfl, z⟩ := h
    exact .cons (.tup z (.cons (.str _) (.cons (.str _) .nil))) ih
def leQ (p q : Str × Str) : Prop := lexS q p = false
/-- sorted(xs), xs a list of pairs of texts -/
def rSortQ (K : PySem.W.Frag) : List V → Hp → VK → Prop := fun vs H Q => ∃ (a : Addr) (xs : List V) (ps : List (Str × Str)), vs = [.ref a] ∧ SqL K H a xs ∧ Prs H xs ps ∧
  ∀ (ys : List V) (qs : List (Str × Str)) (p : Addr), qs.Perm ps → qs.Pairwise leQ → Prs H ys qs → H p = none → Q (.ref p) (upd H p (.lst ys))
section
variable {X : Cx}
theorem cr_sortQ : CallR X (.builtin "sorted") (rSortQ X.K) := by
  intro pins s σ H vs us Q I r h
  obtain ⟨a, xs, ps, rfl, hs, hp, q⟩ := h
  obtain ⟨its, rv, hl, hz⟩ := I.list hs
  obtain ⟨u, rfl, ru⟩ := vals1 r
  obtain rfl : u = Value.ref a := ru
  have hx := hp.mem
  obtain ⟨e1, e2⟩ := refs_back rv fun x m => by
    obtain ⟨t, e, _⟩ := hx x m
    exact ⟨t, e⟩
  refine sorted_prs (k := fun u => prOf H (backV u)) hl.isList (by rw [← rv.length]; exact hz) (fun v hv => ?_) fun h' d out h1 h2 kp hd hn => ?_
  · obtain ⟨t, rfl⟩ := e2 v hv
    have hm : V.ref t ∈ xs := by rw [e1]; exact List.mem_map.mpr ⟨_, hv, rfl⟩
    obtain ⟨t', e, z⟩ := hx _ hm
    cases e
    obtain ⟨its2, r2, ⟨o, ho, hc, n, hd⟩, _⟩ := I.tuple z.sq
    obtain ⟨u1, u2, rfl, ri, rj⟩ := vals2 r2
    obtain ⟨t1, rfl⟩ := ri
    obtain ⟨t2, rfl⟩ := rj
    exact ⟨t, o, t1, t2, n, rfl, ho, hc, hd⟩
  · have h3 : ∀ u ∈ out, ∃ a, u = Value.ref a := fun u hu => e2 u (h2.perm.mem_iff.mp hu)
    obtain ⟨n, hn⟩ := hn
    have pm : (out.map backV).Perm xs := by
      rw [e1]
      exact h2.perm.map backV
    have hy : Prs H (out.map backV) ((out.map backV).map (prOf H)) := Prs.of fun v hv => hx v (pm.mem_iff.mp hv)
    have pm2 : ((out.map backV).map (prOf H)).Perm ps := by
      rw [hp.map]
      exact pm.map _
    refine ⟨.ref d, upd H d (.lst (out.map backV)), I.laid (t' := s.toks) kp hd ⟨?_, out, n, vals_back h3, hn⟩, rfl, q _ _ d pm2 ?_ hy (I.hok.fresh hd)⟩
    · rw [pm.length_eq]
      exact hz
    · rw [List.map_map]
      exact List.pairwise_map.mpr h1
end
/-- one sorted arrangement -/
theorem leQ_anti {p q : Str × Str} (h1 : leQ p q) (h2 : leQ q p) : p = q := by
  unfold leQ lexS at h1 h2
  by_cases e : p.1 = q.1
  · rw [if_pos e.symm] at h1
    rw [if_pos e] at h2
    exact Prod.ext e (ltS_tri h2 h1)
  · rw [if_neg fun z => e z.symm] at h1
    rw [if_neg e] at h2
    exact absurd (ltS_tri h2 h1) e
theorem sortQ_one : ∀ {ys zs : List (Str × Str)}, ys.Perm zs → ys.Pairwise leQ → zs.Pairwise leQ → ys = zs
  | [], zs, p, _, _ => (List.Perm.eq_nil p.symm).symm
  | y :: ys, [], p, _, _ => absurd (List.Perm.eq_nil p) (by simp)
  | y :: ys, z :: zs, p, h1, h2 => by
    have e : y = z := by
      have m1 : y ∈ z :: zs := p.mem_iff.mp List.mem_cons_self
      have m2 : z ∈ y :: ys := p.mem_iff.mpr List.mem_cons_self
      rcases List.mem_cons.mp m1 with e | m1
      · exact e
      · rcases List.mem_cons.mp m2 with e | m2
        · exact e.symm
        · exact leQ_anti ((List.pairwise_cons.mp h1).1 z m2) ((List.pairwise_cons.mp h2).1 y m1)
    subst e
    rw [sortQ_one (List.perm_cons y |>.mp p) (List.pairwise_cons.mp h1).2 (List.pairwise_cons.mp h2).2]
end Xp

/-! A method's call in a try: what is raised is wished for at the caller's slots. -/
namespace Xo
open PySem PySem.Spec PyProof.Rows L2 Gy Xt
section
variable {X : Cx} {CX : CXT} {k : Nat} {f C : Addr} {fd : FuncData} {ps : List Str} {sp : Sp} {E : L2.St → XK} {m : Str} {pos apos : Pos} {e o : Expr} {es : List Expr} {ta : TE} {t : TA}
def tMethT (C : Addr) (m : Str) (sp : Sp) (E : L2.St → XK) (ta : TE) (t : TA) : TE := fun σ H Q => ta σ H fun x H1 => ∃ a dx fs, x = .ref a ∧ H1 a = some (.ins C dx fs) ∧ fs.lookup m = none ∧ t σ H1 fun vs H2 => sp (x :: vs) H2 Q (E σ)
theorem pe_methT {pl : Sem Bool} (he : PE X o ta) (c : Cls X.K C) (hm : Meth X.K C m f) (F : FnOk X.prog X.w X.K X.mg X.base CX k f fd ps sp) (hr : Room k X.A) (hb : Binds X.K fd ps []) (hx : ∀ σ, PassesAt CX X σ (E σ)) (ha : PA X (e :: es) t)
    (h1 : starEach (e :: es) X.env = (false, eval e X.env) :: starEach es X.env := by rfl) (h2 : (backTo pos (starEach es X.env)).any (·.1) = false := by rfl)
    (h3 : eval (.Call (.Attribute o m apos) (e :: es) [] pos) X.env = (do let ov ← eval o X.env; standAt apos.atName; let (f, first) ← holding [ov] (getMethod ov m pl); callWith pos f first (backTo pos (starEach (e :: es) X.env)) (backToKw pos (keywordEach [] X.env))) := by rfl) :
    PE X (.Call (.Attribute o m apos) (e :: es) [] pos) (tMethT C m sp E ta t) := by
  constructor
  intro pins s σ H Q I h
  refine PySem.W.methodCall_KW (pl := pl) (thn (he.run pins s σ H _ I h) fun u s1 w1 => ?_) h3
  obtain ⟨x, H1, I1, rx, a, dx, fs, rfl, ea, l, q⟩ := w1
  obtain rfl : u = .ref a := rx
  refine getmeth_ok I1 ea c hm l (PySem.W.callWith_K (first := [.ref a]) (h₀ := X.base) I.ok.mod.kin hm.kp (thn (ha.run pos pins s1 σ H1 _ I1 q) fun us s2 w2 => ?_) h1 h2)
  obtain ⟨vs, H2, I2, r, q2⟩ := w2
  exact ⟨I2.kIn, run_fnS (us := .ref a :: us) (vs := .ref a :: vs) F hr hb (hx σ) I2 (.cons rfl r) q2⟩
def tMethK (C : Addr) (m : Str) (n : Nat) (sp : Sp) (gV : List V → List V → List V) (E : XK) (ta : TE) (tk : TA) : TE := fun σ H Q => ta σ H fun x H1 => ∃ a dx fs, x = .ref a ∧ H1 a = some (.ins C dx fs) ∧ fs.lookup m = none ∧ tk σ H1 fun zs H2 => zs.length = n ∧ sp (gV [x] zs) H2 Q E
/-- o.m(k = v, ..) -/
theorem pe_methK {pl : Sem Bool} {ks : List Str} {E : XK} {kws : List Keyword} {tk : TA} {g : List Value → List Value → List Value} {gV : List V → List V → List V} (he : PE X o ta) (c : Cls X.K C) (hm : Meth X.K C m f) (F : FnOk X.prog X.w X.K X.mg X.base CX k f fd ps sp) (hr : Room k X.A) (hb : KBn X.K fd ps 1 ks g gV) (hx : Passes CX X E) (hkw : PK X kws tk)
    (h1 : (backToKw pos (keywordEach kws X.env)).all (·.1.isSome) = true := by rfl) (h4 : (backToKw pos (keywordEach kws X.env)).filterMap (·.1) = ks := by rfl) (h2 : ((backTo pos (starEach [] X.env)).any (·.1) || (backToKw pos (keywordEach kws X.env)).any (·.1.isNone)) = false := by rfl)
    (h3 : eval (.Call (.Attribute o m apos) [] kws pos) X.env = (do let ov ← eval o X.env; standAt apos.atName; let (f, first) ← holding [ov] (getMethod ov m pl); callWith pos f first (backTo pos (starEach [] X.env)) (backToKw pos (keywordEach kws X.env))) := by rfl) :
    PE X (.Call (.Attribute o m apos) [] kws pos) (tMethK C m ks.length sp gV E ta tk) := by
  constructor
  intro pins s σ H Q I h
  refine PySem.W.methodCall_KW (pl := pl) (thn (he.run pins s σ H _ I h) fun u s1 w1 => ?_) h3
  obtain ⟨x, H1, I1, rx, a, dx, fs, rfl, ea, l, q⟩ := w1
  obtain rfl : u = .ref a := rx
  refine getmeth_ok I1 ea c hm l (PySem.W.callWith_KW0 (first := [.ref a]) (h₀ := X.base) I.ok.mod.kin hm.kp h1 (thn (hkw.run pos pins s1 σ H1 _ I1 q) fun us s2 w2 => ?_) h2)
  obtain ⟨zs, H2, I2, rz, l2, q2⟩ := w2
  rw [h4]
  exact ⟨I2.kIn, run_fnN (us := [.ref a]) (vs := [.ref a]) F hr hb hx I2 (.cons rfl .nil) rz rfl l2 q2⟩
end
end Xo

/-! d.update(e): both dicts with keys that are texts or ints. -/
namespace Xu
open PySem PySem.Spec PyProof.Rows L2 Gy Xt
section
variable {X : Cx}
def rUpd : V → List V → Hp → VK → Prop := fun x xs H Q => ∃ (a b : Addr) (kvs more : List (L2.Key × V)), x = .ref a ∧ xs = [.ref b] ∧ a ≠ b ∧ H a = some (.dK kvs) ∧ H b = some (.dK more) ∧ kvs.length + more.length ≤ sizeLine ∧ Q .non (upd H a (.dK (mergeK kvs more)))
theorem putK_le (kvs : List (L2.Key × V)) (k : L2.Key) (v : V) : (putK kvs k v).length ≤ kvs.length + 1 := length_putK kvs k v
theorem mergeK_le : ∀ (more kvs : List (L2.Key × V)), (mergeK kvs more).length ≤ kvs.length + more.length
  | [], kvs => Nat.le_refl _
  | p :: ps, kvs => by
    have a := mergeK_le ps (putK kvs p.1 p.2)
    have b := putK_le kvs p.1 p.2
    show (mergeK (putK kvs p.1 p.2) ps).length ≤ kvs.length + (ps.length + 1)
    omega
theorem mt_upd : MtR X "dict.update" rUpd := by
  intro pn s sl G x ys v us Q inv rx rys h
  obtain ⟨a, b, kvs, more, rfl, rfl, ne, ha, hb, lt, q⟩ := h
  cases rx
  obtain ⟨w1, rfl, y1⟩ := vals1 rys
  cases y1
  obtain ⟨z, hd, vs, rel, dd⟩ := dk_of inv.hok ha
  obtain ⟨z2, hd2, vs2, rel2, dd2⟩ := dk_of inv.hok hb
  have l1 := KV.length rel
  have l2 := KV.length rel2
  refine call_meetsIn PySem.F.slot_dict_update dd.typeIs PySem.F.entry_dict_update (PySem.F.args_dict_update_2 _ _) (meets_dict_update (mixKind X.prog X.w) a b ne hd2) ⟨vs, vs2, dd, dd2, (by rw [← l1, ← l2]; exact lt), fun h' dd' _ sb => ?_⟩
  have he : ∃ q, h'.get? a = some q := let ⟨q, _, _, hq, _⟩ := dd'; ⟨q, hq⟩
  exact ⟨.non, _, d_write (t' := s.toks) inv (by rw [ha]; exact True.intro) sb he (dk_new (Nat.le_trans (mergeK_le more kvs) lt) hd (KV.merge rel2 rel) dd'), rfl, q⟩
end
end Xu

/-! Defs and what is known of them in one word; the built-in names that are not taken. -/
namespace My
open PySem PySem.Spec PyProof.Rows L2 Gy Xl Xs Xt
/-- no name of the module's own hides a built-in one -/
structure Bn (mg : Str → Option Value) : Prop where
  len : mg "len" = none
  range : mg "range" = none
  abs : mg "abs" = none
  max : mg "max" = none
  min : mg "min" = none
  divmod : mg "divmod" = none
  isinstance : mg "isinstance" = none
  str : mg "str" = none
  int : mg "int" = none
  bool : mg "bool" = none
  tuple : mg "tuple" = none
  list : mg "list" = none
  set : mg "set" = none
  dict : mg "dict" = none
  all : mg "all" = none
  any : mg "any" = none
  repr : mg "repr" = none
  sorted : mg "sorted" = none
  enumerate : mg "enumerate" = none
  zip : mg "zip" = none
/-- a def of the top, by its name, with its promise -/
structure Fk (P : Program) (w : World) (K : PySem.W.Frag) (mg : Str → Option Value) (base : Heap) (CX : CXT) (k : Nat) (nm : Str) (ps : List Str) (sp : Sp) : Prop where
  ex : ∃ (f : Addr) (fd : FuncData), mg nm = some (.ref f) ∧ PySem.W.keepIn K (.ref f) = true ∧ Binds K fd ps [] ∧ FnOk P w K mg base CX k f fd ps sp
/-- the same where no repr is under way -/
structure Fg (P : Program) (w : World) (K : PySem.W.Frag) (mg : Str → Option Value) (base : Heap) (CX : CXT) (k : Nat) (nm : Str) (ps : List Str) (sp : Sp) : Prop where
  ex : ∃ (f : Addr) (fd : FuncData), mg nm = some (.ref f) ∧ PySem.W.keepIn K (.ref f) = true ∧ Binds K fd ps [] ∧ FnG P w K mg base CX k f fd ps sp
section
variable {P : Program} {w : World} {K : PySem.W.Frag} {mg : Str → Option Value} {base : Heap} {CX : CXT} {k : Nat} {nm : Str} {ps : List Str} {sp : Sp}
theorem Fk.imp {sp' : Sp} (F : Fk P w K mg base CX k nm ps sp) (h : ∀ vs H Q E, sp' vs H Q E → sp vs H Q E) : Fk P w K mg base CX k nm ps sp' := by
  obtain ⟨f, fd, a, b, c, d⟩ := F.ex
  exact ⟨f, fd, a, b, c, d.imp h⟩
theorem Fk.g (F : Fk P w K mg base CX k nm ps sp) : Fg P w K mg base CX k nm ps sp := by
  obtain ⟨f, fd, a, b, c, d⟩ := F.ex
  exact ⟨f, fd, a, b, c, .of d⟩
/-- what is raised is never raised -/
theorem passN {X : Cx} : Passes (L2.CX X.prog X.w) X (fun _ _ _ => False) := by
  rintro pins σ H s e s' I ⟨a, B, H', cls, d, _, _, _, _, _, _, _, f⟩
  exact f.elim
end
section
variable {X : Cx} {CX : CXT} {k : Nat} {ps : List Str} {sp : Sp} {E : XK} {x : Str} {p pos : Pos} {e : Expr} {es : List Expr} {t : TA}
theorem pe_callF (F : Fk X.prog X.w X.K X.mg X.base CX k x ps sp) (hr : Room k X.A) (hg : Gl X x) (hx : Passes CX X E) (ha : PA X (e :: es) t)
    (hdb : (x == ("__debug__" : Str)) = false := by decide) (he : starEach (e :: es) X.env = (false, eval e X.env) :: starEach es X.env := by rfl)
    (hpl : (backTo pos (starEach es X.env)).any (·.1) = false := by rfl) : PE X (.Call (.Name x p) (e :: es) [] pos) (tCall sp [] E t) := by
  obtain ⟨f, fd, m, kp, b, G⟩ := F.ex
  exact pe_call G hr hg m kp b .nil hx ha hdb he hpl
theorem pe_callFg (F : Fg X.prog X.w X.K X.mg X.base CX k x ps sp) (gd : X.A.guards = some []) (hr : Room k X.A) (hg : Gl X x) (hx : Passes CX X E) (ha : PA X (e :: es) t)
    (hdb : (x == ("__debug__" : Str)) = false := by decide) (he : starEach (e :: es) X.env = (false, eval e X.env) :: starEach es X.env := by rfl)
    (hpl : (backTo pos (starEach es X.env)).any (·.1) = false := by rfl) : PE X (.Call (.Name x p) (e :: es) [] pos) (tG sp E t) := by
  obtain ⟨f, fd, m, kp, b, G⟩ := F.ex
  exact pe_callG G gd hr hg m kp b hx ha hdb he hpl
end
/-! ### heaps -/
theorem same_upd {H : Hp} {p : Addr} {o : HO} (h : H p = none) : Same H (upd H p o) := fun b x e => by
  rw [upd_ne (ne_of_none e h)]
  exact e
/-- a new object that is written once more: what stood before stands -/
theorem same_upd2 {H0 H : Hp} {p : Addr} {o : HO} (s : Same H0 H) (h : H0 p = none) : Same H0 (upd H p o) := fun b x e => by
  rw [upd_ne (ne_of_none e h)]
  exact s b x e
/-- all but r stands -/
def But (r : Addr) (H H' : Hp) : Prop := ∀ b o, b ≠ r → H b = some o → H' b = some o
theorem But.refl (r : Addr) (H : Hp) : But r H H := fun _ _ _ h => h
theorem But.trans {r : Addr} {H H1 H2 : Hp} (a : But r H H1) (b : But r H1 H2) : But r H H2 := fun c o n h => b c o n (a c o n h)
theorem But.of {r : Addr} {H H' : Hp} (s : Same H H') : But r H H' := fun c o _ h => s c o h
theorem But.upd {r L : Addr} {H H' : Hp} {o : HO} (h : But r H H') (n : H L = none) : But r H (L2.upd H' L o) := fun c u nc e => by
  rw [upd_ne (ne_of_none e n)]
  exact h c u nc e
theorem small200 {n : Nat} (h : n ≤ 10000) : n < sizeLine := Nat.lt_of_le_of_lt h (by decide)
theorem le200 {n : Nat} (h : n ≤ 10000) : n ≤ sizeLine := Nat.le_of_lt (small200 h)
/-- an item of a list of texts, by a number below its length -/
theorem at_in {α : Type} {xs : List α} {d : Int} (h0 : 0 ≤ d) (h1 : d < (xs.length : Int)) : ∃ v, atI xs d = some v ∧ v ∈ xs := by
  obtain ⟨j, rfl⟩ := Int.eq_ofNat_of_zero_le h0
  have hj : j < xs.length := by omega
  exact ⟨xs[j], atI_nat (List.getElem?_eq_getElem hj), List.getElem_mem hj⟩
theorem fun_g0 {P : Program} {w : World} {K : PySem.W.Frag} {mg : Str → Option Value} {base : Heap} {k : Nat} {f : Addr} {fd : FuncData} {ps N : List Str} {sp : Sp} {x qual : Str} {st : Stmt} (F : Fun K x qual st f fd) (S : FnScope N ps (defScope st)) (ln : ∀ {vs H Q E}, sp vs H Q E → vs.length = ps.length)
    (bd : ∀ (cdv : Value) (A : Around) (outer : List Env) (s : Shared) (H : Hp) (vs : List V) (Q : VK) (E : XK), A.guards = some [] →
      Room k (A.deeper (envOfC qual (defScope st) s.heap.objs.size f cdv)) → sp vs H Q E →
      ∃ t, PSs (cxOf CX0 P w K mg base N qual (defScope st) f cdv A outer s H E).nox (defBody st) t ∧
        t { nx := fun _ H' => Q .non H', rt := Q } (start N vs) H) : FnG P w K mg base CX0 (k + 1) f fd ps sp := by
  refine fun_g F S ln fun cdv A outer s H vs Q E g hr h => ?_
  obtain ⟨t, ht, hq⟩ := bd cdv A outer s H vs Q E g hr h
  exact ⟨t, ht.nox, hq⟩
theorem Room.units70 {k : Nat} {A : Around} (r : Room k A) : A.units + 70 < cLine := by
  have := r.un
  omega
theorem all_true {n : Nat} : ((List.replicate n true).all id) = true := by
  induction n with
  | zero => rfl
  | succ n ih => rw [List.replicate_succ, List.all_cons, ih]; rfl
end My

namespace My
open PySem PySem.Spec PyProof.Rows L2
def top (i : Nat) : Stmt := PySem.Challenge.pw_relinktree_k42_asks_and_refusals.main.body.getD i (.Pass ⟨0, 0, 0, 0⟩)
abbrev s_wall : Stmt := top 0
theorem sc_wall : FnScope ["k"] ["k"] (defScope s_wall) := ⟨rfl, rfl, rfl, by decide +kernel, rfl, by decide +kernel, by decide +kernel⟩
abbrev s_is_host_name : Stmt := top 16
theorem sc_is_host_name : FnScope ["value"] ["value"] (defScope s_is_host_name) := ⟨rfl, rfl, rfl, by decide +kernel, rfl, by decide +kernel, by decide +kernel⟩
abbrev s_is_word : Stmt := top 17
theorem sc_is_word : FnScope ["value"] ["value"] (defScope s_is_word) := ⟨rfl, rfl, rfl, by decide +kernel, rfl, by decide +kernel, by decide +kernel⟩
abbrev s_is_text_of : Stmt := top 18
theorem sc_is_text_of : FnScope ["value", "characters", "longest", "character"] ["value", "characters", "longest"] (defScope s_is_text_of) := ⟨rfl, rfl, rfl, by decide +kernel, rfl, by decide +kernel, by decide +kernel⟩
abbrev s_is_integer_from : Stmt := top 20
theorem sc_is_integer_from : FnScope ["value", "least"] ["value", "least"] (defScope s_is_integer_from) := ⟨rfl, rfl, rfl, by decide +kernel, rfl, by decide +kernel, by decide +kernel⟩
abbrev s_is_index : Stmt := top 21
theorem sc_is_index : FnScope ["value", "size"] ["value", "size"] (defScope s_is_index) := ⟨rfl, rfl, rfl, by decide +kernel, rfl, by decide +kernel, by decide +kernel⟩
abbrev s_is_relink : Stmt := top 24
theorem sc_is_relink : FnScope ["value", "path", "cut"] ["value"] (defScope s_is_relink) := ⟨rfl, rfl, rfl, by decide +kernel, rfl, by decide +kernel, by decide +kernel⟩
abbrev s_is_relink_path : Stmt := top 25
theorem sc_is_relink_path : FnScope ["value", "host"] ["value"] (defScope s_is_relink_path) := ⟨rfl, rfl, rfl, by decide +kernel, rfl, by decide +kernel, by decide +kernel⟩
abbrev s_is_cut_of : Stmt := top 26
theorem sc_is_cut_of : FnScope ["path", "value"] ["path", "value"] (defScope s_is_cut_of) := ⟨rfl, rfl, rfl, by decide +kernel, rfl, by decide +kernel, by decide +kernel⟩
abbrev s_check_relink : Stmt := top 27
theorem sc_check_relink : FnScope ["value"] ["value"] (defScope s_check_relink) := ⟨rfl, rfl, rfl, by decide +kernel, rfl, by decide +kernel, by decide +kernel⟩
abbrev s_position : Stmt := top 28
theorem sc_position : FnScope ["relink", "host", "path"] ["relink", "host"] (defScope s_position) := ⟨rfl, rfl, rfl, by decide +kernel, rfl, by decide +kernel, by decide +kernel⟩
abbrev s_is_item : Stmt := top 34
theorem sc_is_item : FnScope ["value", "parts"] ["value"] (defScope s_is_item) := ⟨rfl, rfl, rfl, by decide +kernel, rfl, by decide +kernel, by decide +kernel⟩
abbrev s_are_message_parts : Stmt := top 35
theorem sc_are_message_parts : FnScope ["parts", "writer", "word", "bit"] ["parts"] (defScope s_are_message_parts) := ⟨rfl, rfl, rfl, by decide +kernel, rfl, by decide +kernel, by decide +kernel⟩
abbrev s_is_control_kind : Stmt := top 36
theorem sc_is_control_kind : FnScope ["value"] ["value"] (defScope s_is_control_kind) := ⟨rfl, rfl, rfl, by decide +kernel, rfl, by decide +kernel, by decide +kernel⟩
abbrev s_check_item : Stmt := top 37
theorem sc_check_item : FnScope ["value"] ["value"] (defScope s_check_item) := ⟨rfl, rfl, rfl, by decide +kernel, rfl, by decide +kernel, by decide +kernel⟩
abbrev s_forward_bit : Stmt := top 39
theorem sc_forward_bit : FnScope ["relink", "host", "phase", "source", "goal", "bit", "at", "path", "cut", "is_fresh", "outwards"] ["relink", "host", "phase", "source", "goal", "bit"] (defScope s_forward_bit) := ⟨rfl, rfl, rfl, by decide +kernel, rfl, by decide +kernel, by decide +kernel⟩
abbrev s_end_bit : Stmt := top 40
theorem sc_end_bit : FnScope ["is_over_new_link", "may_cross"] ["is_over_new_link", "may_cross"] (defScope s_end_bit) := ⟨rfl, rfl, rfl, by decide +kernel, rfl, by decide +kernel, by decide +kernel⟩
abbrev s_forwards : Stmt := top 41
theorem sc_forwards : FnScope ["links", "source", "bit", "relink", "host", "phase", "goals", "bits", "goal", "sent"] ["links", "source", "bit", "relink", "host", "phase"] (defScope s_forwards) := ⟨rfl, rfl, rfl, by decide +kernel, rfl, by decide +kernel, by decide +kernel⟩
abbrev s_control_step : Stmt := top 42
theorem sc_control_step : FnScope ["relink", "host", "kind", "at", "step"] ["relink", "host", "kind"] (defScope s_control_step) := ⟨rfl, rfl, rfl, by decide +kernel, rfl, by decide +kernel, by decide +kernel⟩
abbrev s_is_received : Stmt := top 43
theorem sc_is_received : FnScope ["relink", "at", "kind", "path", "cut"] ["relink", "at", "kind"] (defScope s_is_received) := ⟨rfl, rfl, rfl, by decide +kernel, rfl, by decide +kernel, by decide +kernel⟩
abbrev s_ask_step : Stmt := top 44
theorem sc_ask_step : FnScope ["relink", "at", "path"] ["relink", "at"] (defScope s_ask_step) := ⟨rfl, rfl, rfl, by decide +kernel, rfl, by decide +kernel, by decide +kernel⟩
abbrev s_no_step : Stmt := top 45
theorem sc_no_step : FnScope ["relink", "at"] ["relink", "at"] (defScope s_no_step) := ⟨rfl, rfl, rfl, by decide +kernel, rfl, by decide +kernel, by decide +kernel⟩
abbrev s_yes_step : Stmt := top 46
theorem sc_yes_step : FnScope ["relink", "at", "path", "cut", "phase"] ["relink", "at"] (defScope s_yes_step) := ⟨rfl, rfl, rfl, by decide +kernel, rfl, by decide +kernel, by decide +kernel⟩
abbrev s_first_yes_step : Stmt := top 47
theorem sc_first_yes_step : FnScope ["relink", "path", "cut", "sends"] ["relink"] (defScope s_first_yes_step) := ⟨rfl, rfl, rfl, by decide +kernel, rfl, by decide +kernel, by decide +kernel⟩
abbrev s_go_step : Stmt := top 48
theorem sc_go_step : FnScope ["relink", "at", "path", "cut", "sends"] ["relink", "at"] (defScope s_go_step) := ⟨rfl, rfl, rfl, by decide +kernel, rfl, by decide +kernel, by decide +kernel⟩
abbrev s_back_step : Stmt := top 49
theorem sc_back_step : FnScope ["relink", "at"] ["relink", "at"] (defScope s_back_step) := ⟨rfl, rfl, rfl, by decide +kernel, rfl, by decide +kernel, by decide +kernel⟩
abbrev s_link_cut_behind : Stmt := top 50
theorem sc_link_cut_behind : FnScope ["relink", "at", "path", "cut"] ["relink", "at"] (defScope s_link_cut_behind) := ⟨rfl, rfl, rfl, by decide +kernel, rfl, by decide +kernel, by decide +kernel⟩
abbrev s_law_pot : Stmt := top 55
theorem sc_law_pot : FnScope ["_law_script", "_law_k", "_law_cell"] ["_law_script", "_law_k"] (defScope s_law_pot) := ⟨rfl, rfl, rfl, by decide +kernel, rfl, by decide +kernel, by decide +kernel⟩
abbrev s_law_draw : Stmt := top 56
theorem sc_law_draw : FnScope ["_law_pot_here", "_law_count", "_law_digit"] ["_law_pot_here", "_law_count"] (defScope s_law_draw) := ⟨rfl, rfl, rfl, by decide +kernel, rfl, by decide +kernel, by decide +kernel⟩
abbrev s_law_choose : Stmt := top 57
theorem sc_law_choose : FnScope ["_law_pot_here", "_law_values"] ["_law_pot_here", "_law_values"] (defScope s_law_choose) := ⟨rfl, rfl, rfl, by decide +kernel, rfl, by decide +kernel, by decide +kernel⟩
abbrev s_law_name : Stmt := top 58
theorem sc_law_name : FnScope ["_law_pot_here", "_law_used", "_law_letters", "_law_size", "_law_word", "_law_choices", "_law_k", "_law_letter", "_law_choice"] ["_law_pot_here", "_law_used"] (defScope s_law_name) := ⟨rfl, rfl, rfl, by decide +kernel, rfl, by decide +kernel, by decide +kernel⟩
abbrev s_law_new : Stmt := top 59
theorem sc_law_new : FnScope ["_law_name_here", "_law_linked_here", "_law_logged", "_law_found"] ["_law_name_here", "_law_linked_here", "_law_logged"] (defScope s_law_new) := ⟨rfl, rfl, rfl, by decide +kernel, rfl, by decide +kernel, by decide +kernel⟩
abbrev s_law_awaited : Stmt := top 60
theorem sc_law_awaited : FnScope ["_law_model", "_law_path_here"] ["_law_model"] (defScope s_law_awaited) := ⟨rfl, rfl, rfl, by decide +kernel, rfl, by decide +kernel, by decide +kernel⟩
abbrev s_law_bit : Stmt := top 61
theorem sc_law_bit : FnScope ["_law_model", "_law_source", "_law_goal", "_law_bit_here", "_law_path_here", "_law_cut", "_law_place", "_law_last", "_law_there", "_law_is_new"] ["_law_model", "_law_source", "_law_goal", "_law_bit_here"] (defScope s_law_bit) := ⟨rfl, rfl, rfl, by decide +kernel, rfl, by decide +kernel, by decide +kernel⟩
abbrev s_law_spread : Stmt := top 62
theorem sc_law_spread : FnScope ["_law_model", "_law_message", "_law_source", "_law_bit_here", "_law_found", "_law_goal", "_law_its_bit"] ["_law_model", "_law_message", "_law_source", "_law_bit_here"] (defScope s_law_spread) := ⟨rfl, rfl, rfl, by decide +kernel, rfl, by decide +kernel, by decide +kernel⟩
abbrev s_law_freed : Stmt := top 63
theorem sc_law_freed : FnScope ["_law_model", "_law_awaited_here", "_law_items", "_law_found", "_law_item"] ["_law_model"] (defScope s_law_freed) := ⟨rfl, rfl, rfl, by decide +kernel, rfl, by decide +kernel, by decide +kernel⟩
abbrev s_law_unlinked : Stmt := top 64
theorem sc_law_unlinked : FnScope ["_law_model", "_law_other", "_law_link"] ["_law_model", "_law_other"] (defScope s_law_unlinked) := ⟨rfl, rfl, rfl, by decide +kernel, rfl, by decide +kernel, by decide +kernel⟩
abbrev s_law_linked : Stmt := top 65
theorem sc_law_linked : FnScope ["_law_model", "_law_other"] ["_law_model", "_law_other"] (defScope s_law_linked) := ⟨rfl, rfl, rfl, by decide +kernel, rfl, by decide +kernel, by decide +kernel⟩
abbrev s_law_asked : Stmt := top 66
theorem sc_law_asked : FnScope ["_law_model", "_law_source", "_law_item", "_law_path_here", "_law_cut", "_law_place", "_law_last"] ["_law_model", "_law_source", "_law_item"] (defScope s_law_asked) := ⟨rfl, rfl, rfl, by decide +kernel, rfl, by decide +kernel, by decide +kernel⟩
abbrev s_law_finished : Stmt := top 67
theorem sc_law_finished : FnScope ["_law_model", "_law_outcome"] ["_law_model", "_law_outcome"] (defScope s_law_finished) := ⟨rfl, rfl, rfl, by decide +kernel, rfl, by decide +kernel, by decide +kernel⟩
abbrev s_law_refused : Stmt := top 68
theorem sc_law_refused : FnScope ["_law_model", "_law_path_here", "_law_cut", "_law_place"] ["_law_model"] (defScope s_law_refused) := ⟨rfl, rfl, rfl, by decide +kernel, rfl, by decide +kernel, by decide +kernel⟩
abbrev s_law_agreed : Stmt := top 69
theorem sc_law_agreed : FnScope ["_law_model", "_law_item", "_law_path_here", "_law_cut", "_law_place", "_law_found"] ["_law_model", "_law_item"] (defScope s_law_agreed) := ⟨rfl, rfl, rfl, by decide +kernel, rfl, by decide +kernel, by decide +kernel⟩
abbrev s_law_gone_on : Stmt := top 70
theorem sc_law_gone_on : FnScope ["_law_model", "_law_item", "_law_path_here", "_law_cut", "_law_place", "_law_host"] ["_law_model", "_law_item"] (defScope s_law_gone_on) := ⟨rfl, rfl, rfl, by decide +kernel, rfl, by decide +kernel, by decide +kernel⟩
abbrev s_law_received : Stmt := top 71
theorem sc_law_received : FnScope ["_law_model", "_law_source", "_law_item", "_law_place", "_law_path_here"] ["_law_model", "_law_source", "_law_item"] (defScope s_law_received) := ⟨rfl, rfl, rfl, by decide +kernel, rfl, by decide +kernel, by decide +kernel⟩
abbrev s_law_started : Stmt := top 72
theorem sc_law_started : FnScope ["_law_model", "_law_path_here", "_law_cut"] ["_law_model", "_law_path_here", "_law_cut"] (defScope s_law_started) := ⟨rfl, rfl, rfl, by decide +kernel, rfl, by decide +kernel, by decide +kernel⟩
abbrev s_law_shown : Stmt := top 73
theorem sc_law_shown : FnScope ["_law_host"] ["_law_host"] (defScope s_law_shown) := ⟨rfl, rfl, rfl, by decide +kernel, rfl, by decide +kernel, by decide +kernel⟩
abbrev s_law_agrees : Stmt := top 74
theorem sc_law_agrees : FnScope ["_law_host", "_law_model", "_law_keys", "_law_key"] ["_law_host", "_law_model"] (defScope s_law_agrees) := ⟨rfl, rfl, rfl, by decide +kernel, rfl, by decide +kernel, by decide +kernel⟩
abbrev s_law_path : Stmt := top 75
theorem sc_law_path : FnScope ["_law_pot_here", "_law_model", "_law_others", "_law_size", "_law_place", "_law_rest", "_law_found", "_law_k", "_law_other"] ["_law_pot_here", "_law_model", "_law_others"] (defScope s_law_path) := ⟨rfl, rfl, rfl, by decide +kernel, rfl, by decide +kernel, by decide +kernel⟩
abbrev s_law_ask_due : Stmt := top 76
theorem sc_law_ask_due : FnScope ["_law_model", "_law_path_here", "_law_cut"] ["_law_model", "_law_path_here", "_law_cut"] (defScope s_law_ask_due) := ⟨rfl, rfl, rfl, by decide +kernel, rfl, by decide +kernel, by decide +kernel⟩
abbrev s_law_ask_told : Stmt := top 77
theorem sc_law_ask_told : FnScope ["_law_host", "_law_path_here", "_law_cut", "_law_told", "e"] ["_law_host", "_law_path_here", "_law_cut"] (defScope s_law_ask_told) := ⟨rfl, rfl, rfl, by decide +kernel, rfl, by decide +kernel, by decide +kernel⟩
abbrev s_law_received_right : Stmt := top 78
theorem sc_law_received_right : FnScope ["_law_pot_here", "_law_host", "_law_model", "_law_path_here", "_law_cut", "_law_place", "_law_source", "_law_due", "_law_told", "_law_other"] ["_law_pot_here", "_law_host", "_law_model", "_law_path_here", "_law_cut"] (defScope s_law_received_right) := ⟨rfl, rfl, rfl, by decide +kernel, rfl, by decide +kernel, by decide +kernel⟩
abbrev s_law_odd_right : Stmt := top 79
theorem sc_law_odd_right : FnScope ["_law_pot_here", "_law_host", "_law_model", "_law_path_here", "_law_odd", "_law_cut", "_law_pair"] ["_law_pot_here", "_law_host", "_law_model", "_law_path_here"] (defScope s_law_odd_right) := ⟨rfl, rfl, rfl, by decide +kernel, rfl, by decide +kernel, by decide +kernel⟩
abbrev s_law_right : Stmt := top 80
theorem sc_law_right : FnScope ["_law_pot_here", "_law_used", "_law_k", "_law_near", "_law_others", "_law_model", "_law_host", "_law_turn", "_law_path_here", "_law_cut", "_law_due", "_law_other"] ["_law_pot_here"] (defScope s_law_right) := ⟨rfl, rfl, rfl, by decide +kernel, rfl, by decide +kernel, by decide +kernel⟩
abbrev s_law : Stmt := top 81
theorem sc_law : FnScope ["_law_script", "_law_k"] ["_law_script"] (defScope s_law) := ⟨rfl, rfl, rfl, by decide +kernel, rfl, by decide +kernel, by decide +kernel⟩
abbrev m_init : Stmt := inClass (top 53) 0
theorem scm_init : FnScope ["self", "name", "links", "log"] ["self", "name", "links", "log"] (defScope m_init) := ⟨rfl, rfl, rfl, by decide +kernel, rfl, by decide +kernel, by decide +kernel⟩
abbrev m_eq : Stmt := inClass (top 53) 1
theorem scm_eq : FnScope ["self", "other"] ["self", "other"] (defScope m_eq) := ⟨rfl, rfl, rfl, by decide +kernel, rfl, by decide +kernel, by decide +kernel⟩
abbrev m_repr : Stmt := inClass (top 53) 2
theorem scm_repr : FnScope ["self"] ["self"] (defScope m_repr) := ⟨rfl, rfl, rfl, by decide +kernel, rfl, by decide +kernel, by decide +kernel⟩
abbrev m_name : Stmt := inClass (top 53) 3
theorem scm_name : FnScope ["self"] ["self"] (defScope m_name) := ⟨rfl, rfl, rfl, by decide +kernel, rfl, by decide +kernel, by decide +kernel⟩
abbrev m_log : Stmt := inClass (top 53) 4
theorem scm_log : FnScope ["self"] ["self"] (defScope m_log) := ⟨rfl, rfl, rfl, by decide +kernel, rfl, by decide +kernel, by decide +kernel⟩
abbrev m_links : Stmt := inClass (top 53) 5
theorem scm_links : FnScope ["self"] ["self"] (defScope m_links) := ⟨rfl, rfl, rfl, by decide +kernel, rfl, by decide +kernel, by decide +kernel⟩
abbrev m_answers : Stmt := inClass (top 53) 6
theorem scm_answers : FnScope ["self"] ["self"] (defScope m_answers) := ⟨rfl, rfl, rfl, by decide +kernel, rfl, by decide +kernel, by decide +kernel⟩
abbrev m_relink : Stmt := inClass (top 53) 7
theorem scm_relink : FnScope ["self"] ["self"] (defScope m_relink) := ⟨rfl, rfl, rfl, by decide +kernel, rfl, by decide +kernel, by decide +kernel⟩
abbrev m_phase : Stmt := inClass (top 53) 8
theorem scm_phase : FnScope ["self"] ["self"] (defScope m_phase) := ⟨rfl, rfl, rfl, by decide +kernel, rfl, by decide +kernel, by decide +kernel⟩
abbrev m_waits_for : Stmt := inClass (top 53) 9
theorem scm_waits_for : FnScope ["self", "path"] ["self"] (defScope m_waits_for) := ⟨rfl, rfl, rfl, by decide +kernel, rfl, by decide +kernel, by decide +kernel⟩
abbrev m_queue : Stmt := inClass (top 53) 10
theorem scm_queue : FnScope ["self"] ["self"] (defScope m_queue) := ⟨rfl, rfl, rfl, by decide +kernel, rfl, by decide +kernel, by decide +kernel⟩
abbrev m_write : Stmt := inClass (top 53) 11
theorem scm_write : FnScope ["self", "word"] ["self", "word"] (defScope m_write) := ⟨rfl, rfl, rfl, by decide +kernel, rfl, by decide +kernel, by decide +kernel⟩
abbrev m_ask : Stmt := inClass (top 53) 12
theorem scm_ask : FnScope ["self", "path", "cut", "relink"] ["self", "path", "cut"] (defScope m_ask) := ⟨rfl, rfl, rfl, by decide +kernel, rfl, by decide +kernel, by decide +kernel⟩
abbrev m_receive : Stmt := inClass (top 53) 13
theorem scm_receive : FnScope ["self", "source", "item"] ["self", "source", "item"] (defScope m_receive) := ⟨rfl, rfl, rfl, by decide +kernel, rfl, by decide +kernel, by decide +kernel⟩
abbrev m_check_free : Stmt := inClass (top 53) 17
theorem scm_check_free : FnScope ["self"] ["self"] (defScope m_check_free) := ⟨rfl, rfl, rfl, by decide +kernel, rfl, by decide +kernel, by decide +kernel⟩
abbrev m_join_to : Stmt := inClass (top 53) 18
theorem scm_join_to : FnScope ["self", "other"] ["self", "other"] (defScope m_join_to) := ⟨rfl, rfl, rfl, by decide +kernel, rfl, by decide +kernel, by decide +kernel⟩
abbrev m_part_from : Stmt := inClass (top 53) 19
theorem scm_part_from : FnScope ["self", "other", "link"] ["self", "other"] (defScope m_part_from) := ⟨rfl, rfl, rfl, by decide +kernel, rfl, by decide +kernel, by decide +kernel⟩
abbrev m_log_and_forward : Stmt := inClass (top 53) 20
theorem scm_log_and_forward : FnScope ["self", "writer", "word", "source", "bit", "goals", "goal", "sent"] ["self", "writer", "word", "source", "bit"] (defScope m_log_and_forward) := ⟨rfl, rfl, rfl, by decide +kernel, rfl, by decide +kernel, by decide +kernel⟩
abbrev m_accept : Stmt := inClass (top 53) 21
theorem scm_accept : FnScope ["self", "source", "item", "kind", "path", "cut"] ["self", "source", "item"] (defScope m_accept) := ⟨rfl, rfl, rfl, by decide +kernel, rfl, by decide +kernel, by decide +kernel⟩
abbrev m_accept_bye : Stmt := inClass (top 53) 22
theorem scm_accept_bye : FnScope ["self", "source"] ["self", "source"] (defScope m_accept_bye) := ⟨rfl, rfl, rfl, by decide +kernel, rfl, by decide +kernel, by decide +kernel⟩
abbrev m_can_join : Stmt := inClass (top 53) 23
theorem scm_can_join : FnScope ["self", "relink"] ["self", "relink"] (defScope m_can_join) := ⟨rfl, rfl, rfl, by decide +kernel, rfl, by decide +kernel, by decide +kernel⟩
abbrev m_next_host : Stmt := inClass (top 53) 24
theorem scm_next_host : FnScope ["self", "relink"] ["self", "relink"] (defScope m_next_host) := ⟨rfl, rfl, rfl, by decide +kernel, rfl, by decide +kernel, by decide +kernel⟩
abbrev m_act : Stmt := inClass (top 53) 25
theorem scm_act : FnScope ["self", "relink", "kind", "steps", "phase", "added", "removed", "outcome", "awaited", "sends", "goal", "step"] ["self", "relink", "kind"] (defScope m_act) := ⟨rfl, rfl, rfl, by decide +kernel, rfl, by decide +kernel, by decide +kernel⟩
abbrev m_process_queue : Stmt := inClass (top 53) 26
theorem scm_process_queue : FnScope ["self", "awaited", "items", "sends", "item"] ["self", "awaited"] (defScope m_process_queue) := ⟨rfl, rfl, rfl, by decide +kernel, rfl, by decide +kernel, by decide +kernel⟩
end My

namespace My
open PySem PySem.Spec PyProof.Rows L2 Gy Xl Xs Xt
/-! ### the law's numbers: the pot, a draw, a pick -/
/-- the list of two numbers that is drawn from -/
def Rng (H : Hp) (r : Addr) : Prop := ∃ x y : Int, H r = some (.lst [.int x, .int y]) ∧ 0 ≤ x ∧ 0 ≤ y ∧ y < 1099511627776
theorem Rng.ne {H : Hp} {r l : Addr} (h : Rng H r) (hl : H l = none) : l ≠ r := fun z => by
  obtain ⟨x, y, e, _⟩ := h
  rw [← z, hl] at e
  cases e
theorem Rng.upd {H : Hp} {r l : Addr} {o : HO} (h : Rng H r) (hl : H l = none) : Rng (upd H l o) r := by
  obtain ⟨x, y, e, h2⟩ := id h
  exact ⟨x, y, by rw [upd_ne (h.ne hl).symm]; exact e, h2⟩
theorem Rng.upd2 {H : Hp} {r l : Addr} {o : HO} (h : Rng H r) (hl : l ≠ r) : Rng (L2.upd H l o) r := by
  obtain ⟨x, y, e, h2⟩ := id h
  exact ⟨x, y, by rw [upd_ne hl.symm]; exact e, h2⟩
theorem Rng.same {H H' : Hp} {r : Addr} (h : Rng H r) (s : Same H H') : Rng H' r := by
  obtain ⟨x, y, e, h2⟩ := h
  exact ⟨x, y, s _ _ e, h2⟩
section
variable {P : Program} {w : World} {K : PySem.W.Frag} {mg : Str → Option Value} {base : Heap}
def spPot (K : PySem.W.Frag) : Sp := fun vs H Q _ => ∃ (a : Addr) (ns : List Int) (k : Nat), vs = [.ref a, .int (k : Int)] ∧ SqL K H a (ns.map V.int) ∧ k ≤ 100 ∧
  ∀ H' p, Same H H' → H p = none → Rng H' p → Q (.ref p) H'
theorem max_nn (j : Int) : 0 ≤ (if j > 0 then j else 0) := by
  split <;> omega
theorem y_lo (z : Int) : 0 ≤ z % 2147483647 := by omega
theorem y_hi (z : Int) : z % 2147483647 < 1099511627776 := by omega
theorem ok_pot {f : Addr} {fd : FuncData} (F : Fun K "_law_pot" "_law_pot" s_law_pot f fd) (Y : Bn mg) : FnOk P w K mg base CX0 1 f fd ["_law_script", "_law_k"] (spPot K) := by
  refine F.ok sc_law_pot (fun vs H Q E h => ?_) (fun cdv A outer s H vs Q E hr h => ?_)
  · obtain ⟨a, ns, k, rfl, _⟩ := h
    rfl
  · obtain ⟨a, ns, k, rfl, hS, hk, q⟩ := h
    refine ⟨_, (pss_cons (ps_set (i := 2) sc_law_pot.nd rfl (.inl rfl) (pe_ifExp (pt_cmpR op_lt (pv 1) (pe_callB call_len_seq (by rfl) Y.len PySem.boot_len (pa_cons (pv 0) pa_nil)) (nomark _)) (pe_callB call_abs (by rfl) Y.abs (by decide +kernel) (pa_cons (pe_ix ix_list (pv 0) (pv 1) (fun _ _ => rfl)) pa_nil)) pe_int))
 (pss_one (ps_ret (pe_lst (pa_cons (pe_callB (call_max2 rfl) (by rfl) Y.max (by decide +kernel) (pa_cons pe_int (pa_cons (pe_op op_sub (pv 2) (pe_op op_pow pe_int pe_int)) pa_nil))) (pa_cons (pe_op op_mod (pe_op op_add (pe_op op_add (pe_op op_mul (pe_op op_mod (pv 2) pe_int) pe_int) (pe_op op_mul pe_int (pv 1))) pe_int) pe_int) pa_nil)))))), ?_⟩
    refine ⟨_, rfl, _, rfl, a, _, rfl, .inl hS, _, _, rfl, rfl, _, rfl, ite2 (fun c1 => ?A) (fun c1 => ?B)⟩
    case' A =>
      have hk2 : k < ns.length := by
        have := of_decide_eq_true c1
        rw [List.length_map] at this
        omega
      refine ⟨_, rfl, _, rfl, a, _, _, .int ns[k], rfl, rfl, hS, atI_nat (j := k) (by rw [List.getElem?_map, List.getElem?_eq_getElem hk2]; rfl), ?_⟩
      refine ⟨_, rfl, ?_⟩
    all_goals
      refine ⟨_, rfl, 10, 18, rfl, rfl, ⟨by decide, by decide, by decide⟩, _, _, rfl, rfl, 0, _, rfl, ?_⟩
      refine ⟨_, rfl, _, _, rfl, rfl, (by decide : (0 : Int) < 2147483629), _, 44131, rfl, rfl, .inr ⟨by decide, by decide⟩, _, rfl, 7013, _, rfl, rfl, .inl ⟨by decide, by decide⟩, _, _, rfl, rfl, _, _, rfl, rfl, _, _, rfl, rfl, (by decide : (0 : Int) < 2147483647), ?_⟩
      refine ⟨(by show 2 ≤ sizeLine; decide), fun p hp => ?_⟩
      exact q _ p (same_upd hp) hp ⟨_, _, upd_same, max_nn _, y_lo _, y_hi _⟩
def spDraw : Sp := fun vs H Q _ => ∃ (r : Addr) (m : Int), vs = [.ref r, .int m] ∧ Rng H r ∧ 0 < m ∧ m < 1180591620717411303424 ∧
  ∀ H' d, But r H H' → Rng H' r → 0 ≤ d → d < m → Q (.int d) H'
theorem lg70 {m : Int} (m0 : 0 < m) (m1 : m < 1180591620717411303424) : m.natAbs.log2 < 9000 := by
  have h : m.natAbs < 2 ^ 70 := by
    show m.natAbs < 1180591620717411303424
    omega
  exact Nat.lt_of_lt_of_le ((Nat.log2_lt (by omega)).mpr h) (by decide)
theorem ok_draw {f : Addr} {fd : FuncData} (F : Fun K "_law_draw" "_law_draw" s_law_draw f fd) (Y : Bn mg) : FnOk P w K mg base CX0 1 f fd ["_law_pot_here", "_law_count"] spDraw := by
  refine F.ok sc_law_draw (fun vs H Q E h => ?_) (fun cdv A outer s H vs Q E hr h => ?_)
  · obtain ⟨r, m, rfl, _⟩ := h
    rfl
  · obtain ⟨r, m, rfl, ⟨x, y, hR, x0, y0, y1⟩, m0, m1, q⟩ := h
    refine ⟨_, (pss_cons (ps_if (pt_cmpR op_gt (pe_ix ix_list (pv 0) pe_int (fun _ _ => rfl)) pe_int (nomark _))
 (pss_cons (ps_asg (pe_callB call_divmodW (by rfl) Y.divmod (by decide +kernel) (pa_cons (pe_ix ix_list (pv 0) pe_int (fun _ _ => rfl)) (pa_cons (pv 1) pa_nil))) (pg_tup (by rfl) (pgs_cons (pg_sub (pv 0) pe_int set_list) (pgs_cons (pg_name (i := 2) sc_law_draw.nd rfl (Or.inl rfl)) pgs_nil))))
 (pss_one (ps_ret (pv 2))))
 pss_nil)
 (pss_cons (ps_asg (pe_op op_mod (pe_op op_add (pe_op op_mul (pe_ix ix_list (pv 0) pe_int (fun _ _ => rfl)) pe_int) pe_int) pe_int) (pg_sub (pv 0) pe_int set_list))
 (pss_one (ps_ret (pe_op op_mod (pe_op op_fdiv (pe_op op_mod (pe_op op_mul (pe_ix ix_list (pv 0) pe_int (fun _ _ => rfl)) (pe_ix ix_list (pv 0) pe_int (fun _ _ => rfl))) pe_int) pe_int) (pv 1)))))), ?_⟩
    refine ⟨_, rfl, r, _, 0, .int x, rfl, rfl, SqL.of hR, atI_nat (j := 0) rfl, _, _, rfl, rfl, _, rfl, ite2 (fun c1 => ?_) (fun c1 => ?_)⟩
    · refine ⟨_, rfl, r, _, 0, .int x, rfl, rfl, SqL.of hR, atI_nat (j := 0) rfl, _, rfl, x, m, rfl, ⟨m0, PyProof.noPylong_of_log2 (lg70 m0 m1)⟩, fun p hp => ?_⟩
      have npr : r ≠ p := ne_of_none hR hp
      refine ⟨p, _, rfl, SqT.of upd_same, rfl, _, _, rfl, ?_⟩
      refine ⟨_, rfl, r, _, 0, 0, rfl, rfl, (by rw [upd_ne npr]; exact hR), rfl, ?_⟩
      refine ⟨_, _, rfl, rfl, ?_⟩
      refine ⟨_, rfl, q _ _ ?_ ⟨x / m, y, upd_same, Int.ediv_nonneg x0 (Int.le_of_lt m0), y0, y1⟩ (Int.emod_nonneg _ (by omega)) (Int.emod_lt_of_pos _ m0)⟩
      intro b o nb e
      rw [upd_ne nb, upd_ne (ne_of_none e hp)]
      exact e
    · refine ⟨_, rfl, r, _, 1, .int y, rfl, rfl, SqL.of hR, atI_nat (j := 1) rfl, y, 48271, rfl, rfl, .inl ⟨by omega, by omega⟩, _, _, rfl, rfl, _, _, rfl, rfl, (by decide : (0 : Int) < 2147483647), ?_⟩
      refine ⟨_, rfl, r, _, 1, 1, rfl, rfl, hR, rfl, ?_⟩
      have z0 := Int.emod_nonneg (y * 48271 + 30029) (by decide : (2147483647 : Int) ≠ 0)
      have z1 := Int.emod_lt_of_pos (y * 48271 + 30029) (by decide : (0 : Int) < 2147483647)
      refine ⟨_, rfl, r, _, 1, _, rfl, rfl, SqL.of upd_same, atI_nat (j := 1) rfl, _, rfl, r, _, 1, _, rfl, rfl, SqL.of upd_same, atI_nat (j := 1) rfl, _, _, rfl, rfl, .inl ⟨by omega, by omega⟩, ?_⟩
      refine ⟨_, _, rfl, rfl, (by decide : (0 : Int) < 2147483587), _, 7, rfl, rfl, ⟨by decide, by decide⟩, _, rfl, _, m, rfl, rfl, m0, ?_⟩
      refine q _ _ ?_ ⟨x, _, upd_same, x0, z0, by omega⟩ (Int.emod_nonneg _ (by omega)) (Int.emod_lt_of_pos _ m0)
      intro b o nb e
      rw [upd_ne nb]
      exact e
/-- an item of a list -/
def spCh : Sp := fun vs H Q _ => ∃ (r la : Addr) (xs : List V), vs = [.ref r, .ref la] ∧ Rng H r ∧ la ≠ r ∧ H la = some (.lst xs) ∧ 0 < xs.length ∧ xs.length ≤ 1000 ∧ ∀ H' u, But r H H' → Rng H' r → u ∈ xs → Q u H'
theorem ok_choose {f : Addr} {fd : FuncData} (F : Fun K "_law_choose" "_law_choose" s_law_choose f fd) (Y : Bn mg) (G_law_draw : Fk P w K mg base CX0 1 "_law_draw" ["_law_pot_here", "_law_count"] spDraw) :
    FnOk P w K mg base CX0 2 f fd ["_law_pot_here", "_law_values"] spCh := by
  refine F.ok sc_law_choose (fun vs H Q E h => ?_) (fun cdv A outer s H vs Q E hr h => ?_)
  · obtain ⟨r, la, xs, rfl, _⟩ := h
    rfl
  · obtain ⟨r, la, xs, rfl, R, na, ha, l0, l1, q⟩ := h
    refine ⟨_, (pss_one (ps_ret (pe_ix ix_list (pv 1) (pe_callF G_law_draw (hr.mono (by decide)) (by rfl) pass0 (pa_cons (pv 0) (pa_cons (pe_callB call_len_seq (by rfl) Y.len PySem.boot_len (pa_cons (pv 1) pa_nil)) pa_nil))) (fun _ _ => rfl)))), ?_⟩
    refine ⟨_, rfl, _, rfl, _, rfl, la, xs, rfl, .inl (SqL.of ha), ?_⟩
    refine ⟨r, (xs.length : Int), rfl, R, by omega, by omega, fun H1 d b1 R1 d0 d1 => ?_⟩
    obtain ⟨c, hc, mc⟩ := at_in (xs := xs) d0 d1
    exact ⟨la, xs, d, c, rfl, rfl, SqL.of (b1 la _ na ha), hc, q _ _ b1 R1 mc⟩
end
end My

namespace My
open PySem PySem.Spec PyProof.Rows L2 Gy Xl Xs Xt
/-! ### drawn host names: texts of 1 to 8 letters, all different -/
def LET : Str := "abcdefghijklmnopqrstuvwxyz"
/-- a text of 1 to 8 letters -/
def Nm (x : Str) : Prop := 1 ≤ x.length ∧ x.length ≤ 8 ∧ ∀ c ∈ x.cps.toList, c ∈ LET.cps.toList
theorem mem_cat {a b : Str} {c : Nat} (h : c ∈ (a ++ b).cps.toList) : c ∈ a.cps.toList ∨ c ∈ b.cps.toList := by
  have e : (a ++ b).cps.toList = a.cps.toList ++ b.cps.toList := by
    show (a.cps ++ b.cps).toList = _
    rw [Array.toList_append]
  rw [e] at h
  exact List.mem_append.mp h
theorem join_in {p : Nat → Prop} : ∀ ys : List Str, (∀ y ∈ ys, ∀ c ∈ y.cps.toList, p c) → ∀ c ∈ (Str.join "" ys).cps.toList, p c
  | [], _, c, h => by
    have h' : c ∈ ([] : List Nat) := h
    cases h'
  | [y], h, c, hc => h y List.mem_cons_self c hc
  | y :: z :: r, h, c, hc => by
    have hc' : c ∈ (y ++ "" ++ Str.join "" (z :: r)).cps.toList := hc
    rcases mem_cat hc' with hc' | hc'
    · rcases mem_cat hc' with hc' | hc'
      · exact h y List.mem_cons_self c hc'
      · have h' : c ∈ ([] : List Nat) := hc'
        cases h'
    · exact join_in (z :: r) (fun u hu => h u (List.mem_cons_of_mem _ hu)) c hc'
theorem join_len : ∀ ys : List Str, (∀ y ∈ ys, y.length = 1) → (Str.join "" ys).length = ys.length
  | [], _ => rfl
  | [y], h => h y List.mem_cons_self
  | y :: z :: r, h => by
    have ih := join_len (z :: r) fun u hu => h u (List.mem_cons_of_mem _ hu)
    have hy := h y List.mem_cons_self
    show (y ++ "" ++ Str.join "" (z :: r)).length = _
    rw [strLen_append, strLen_append, ih, hy]
    show 1 + 0 + (r.length + 1) = r.length + 1 + 1
    omega
theorem sum_ones : ∀ ys : List Str, (∀ y ∈ ys, y.length = 1) → (ys.map (·.length)).sum ≤ ys.length
  | [], _ => Nat.le_refl _
  | y :: r, h => by
    have h1 := h y List.mem_cons_self
    have h2 := sum_ones r fun z hz => h z (List.mem_cons_of_mem _ hz)
    rw [List.map_cons, List.sum_cons, List.length_cons]
    omega
theorem cut_some (x : Str) (n : Nat) : cutS x none (some (n : Int)) = ⟨(x.cps.toList.take (min n x.length)).toArray⟩ := by
  unfold cutS
  rw [HT.sIx_none, HT.sIx_nat, List.drop_zero, Nat.sub_zero]
/-- the first eight signs of a name with letters behind it -/
theorem nm_cut {x y : Str} (hx : Nm x) (hy : Nm y) : Nm (cutS (x ++ y) none (some 8)) := by
  have e := cut_some (x ++ y) 8
  have l : (x ++ y).length = x.length + y.length := strLen_append x y
  have l2 : (x ++ y).cps.toList.length = (x ++ y).length := Array.length_toList
  obtain ⟨h1, h2, h3⟩ := hx
  obtain ⟨k1, k2, k3⟩ := hy
  rw [show (some 8 : Option Int) = some ((8 : Nat) : Int) from rfl, e]
  refine ⟨?_, ?_, fun c hc => ?_⟩
  · show 1 ≤ ((x ++ y).cps.toList.take (min 8 (x ++ y).length)).toArray.size
    rw [List.size_toArray, List.length_take]
    omega
  · show ((x ++ y).cps.toList.take (min 8 (x ++ y).length)).toArray.size ≤ 8
    rw [List.size_toArray, List.length_take]
    omega
  · have hc' : c ∈ (x ++ y).cps.toList.take (min 8 (x ++ y).length) := by
      simpa using hc
    rcases mem_cat (List.mem_of_mem_take hc') with z | z
    · exact h3 c z
    · exact k3 c z
/-- seven signs of a name and a letter -/
def tl (x : Str) (c : Nat) : Str := cutS x none (some 7) ++ ⟨#[c]⟩
theorem tl_cps (x : Str) (c : Nat) : (tl x c).cps.toList = x.cps.toList.take (min 7 x.length) ++ [c] := by
  unfold tl
  rw [show (some 7 : Option Int) = some ((7 : Nat) : Int) from rfl, cut_some]
  show ((x.cps.toList.take (min 7 x.length)).toArray ++ #[c]).toList = _
  rw [Array.toList_append]
theorem tl_nm {x : Str} {c : Nat} (hx : Nm x) (hc : c ∈ LET.cps.toList) : Nm (tl x c) := by
  have e := tl_cps x c
  have l : (tl x c).length = (tl x c).cps.toList.length := Array.length_toList.symm
  have l2 : x.cps.toList.length = x.length := Array.length_toList
  have l3 : (x.cps.toList.take (min 7 x.length) ++ [c]).length = min 7 x.length + 1 := by
    rw [List.length_append, List.length_take, l2]
    simp
  rw [e, l3] at l
  refine ⟨by omega, by omega, fun d hd => ?_⟩
  rw [e] at hd
  rcases List.mem_append.mp hd with z | z
  · exact hx.2.2 d (List.mem_of_mem_take z)
  · rw [List.mem_singleton.mp z]
    exact hc
theorem tl_inj (x : Str) (c d : Nat) (h : tl x c = tl x d) : c = d := by
  have e : (tl x c).cps.toList = (tl x d).cps.toList := by rw [h]
  rw [tl_cps, tl_cps] at e
  have e2 := List.append_cancel_left e
  injection e2
theorem inV_strs (z : Str) : ∀ xs : List Str, inV (.str z) (xs.map V.str) = decide (z ∈ xs)
  | [] => rfl
  | x :: xs => by
    have ih := inV_strs z xs
    unfold inV at ih ⊢
    rw [List.map_cons, List.any_cons, ih]
    show (x == z || decide (z ∈ xs)) = decide (z ∈ x :: xs)
    by_cases e : x = z
    · subst e
      simp
    · rw [beq_eq_false_iff_ne.mpr e, Bool.false_or]
      congr 1
      rw [List.mem_cons, eq_iff_iff]
      exact ⟨.inr, fun h => h.resolve_left fun u => e u.symm⟩
theorem flat_strs : ∀ xs : List Str, (xs.map V.str).all flatV = true
  | [] => rfl
  | x :: xs => by
    rw [List.map_cons, List.all_cons, flat_strs xs]
    rfl
theorem len_le_of_sub {α : Type} [BEq α] [LawfulBEq α] : ∀ {l m : List α}, l.Nodup → (∀ x ∈ l, x ∈ m) → l.length ≤ m.length
  | [], _, _, _ => Nat.zero_le _
  | x :: l, m, nd, h => by
    rw [List.nodup_cons] at nd
    have hx := h x List.mem_cons_self
    have ih := len_le_of_sub (l := l) (m := m.erase x) nd.2 fun y hy => (List.mem_erase_of_ne (fun e : y = x => nd.1 (by rw [← e]; exact hy))).mpr (h y (List.mem_cons_of_mem _ hy))
    rw [List.length_erase_of_mem hx] at ih
    have : 0 < m.length := List.length_pos_of_mem hx
    rw [List.length_cons]
    omega
theorem nd_map {α β : Type} {f : α → β} (inj : ∀ a b, f a = f b → a = b) : ∀ {l : List α}, l.Nodup → (l.map f).Nodup
  | [], _ => List.nodup_nil
  | x :: l, h => by
    rw [List.nodup_cons] at h
    rw [List.map_cons, List.nodup_cons]
    refine ⟨fun z => ?_, nd_map inj h.2⟩
    obtain ⟨y, hy, e⟩ := List.mem_map.mp z
    exact h.1 (inj _ _ e ▸ hy)
theorem nodup_snoc {α : Type} {xs : List α} {x : α} (h : xs.Nodup) (n : x ∉ xs) : (xs ++ [x]).Nodup := by
  rw [List.nodup_append]
  refine ⟨h, by simp, fun a ha b hb e => n ?_⟩
  rw [List.mem_singleton.mp hb] at e
  rw [← e]
  exact ha
/-- what is tried for a name -/
def triesOf (x : Str) : List Str := x :: LET.cps.toList.map (tl x)
theorem tries_nm {x : Str} (h : Nm x) : ∀ y ∈ triesOf x, Nm y := fun y hy => by
  rcases List.mem_cons.mp hy with rfl | hy
  · exact h
  · obtain ⟨c, hc, rfl⟩ := List.mem_map.mp hy
    exact tl_nm h hc
theorem tries_out {x : Str} {xs : List Str} (h : xs.length < 26) : ∃ z zs, (triesOf x).filter (fun y => decide (y ∉ xs)) = z :: zs := by
  cases e : (triesOf x).filter (fun y => decide (y ∉ xs)) with
  | cons z zs => exact ⟨z, zs, rfl⟩
  | nil =>
    rw [List.filter_eq_nil_iff] at e
    have nd : (LET.cps.toList.map (tl x)).Nodup := nd_map (tl_inj x) (by decide +kernel)
    have le := len_le_of_sub (m := xs) nd fun y hy => by
      have z := e y (List.mem_cons_of_mem _ hy)
      exact Decidable.of_not_not fun w => z (decide_eq_true w)
    rw [List.length_map, show LET.cps.toList.length = 26 by decide +kernel] at le
    omega
theorem dps_strs {K : PySem.W.Frag} {H : Hp} : ∀ xs : List Str, DpAll K H (xs.map V.str) (xs.map PyData.str)
  | [] => .nil
  | x :: xs => .cons (.str x) (dps_strs xs)
theorem nm_ok {x : Str} (h : Nm x) : PyData.strOk x = true := by
  unfold PyData.strOk
  rw [← Array.all_toList, List.all_eq_true]
  intro c hc
  have z : ∀ d ∈ LET.cps.toList, d < 0x110000 := by decide +kernel
  exact decide_eq_true (z c (h.2.2 c hc))
theorem lay_strs : ∀ xs : List Str, (∀ x ∈ xs, Nm x) → PyData.canLayAll0 (xs.map PyData.str) = true
  | [], _ => rfl
  | b :: r, h => by
    show (PyData.strOk b && PyData.canLayAll0 (r.map PyData.str)) = true
    rw [nm_ok (h b List.mem_cons_self), lay_strs r fun x hx => h x (List.mem_cons_of_mem _ hx)]
    rfl
theorem deep_strs : ∀ xs : List Str, PyData.depthAll (xs.map PyData.str) = 0
  | [] => rfl
  | b :: r => by
    show max 0 (PyData.depthAll (r.map PyData.str)) = 0
    rw [deep_strs r]
    rfl
theorem sh_strs (xs : List Str) (h : ∀ x ∈ xs, Nm x) : SeqAt.shaped (.list (xs.map PyData.str)) = true := by
  unfold SeqAt.shaped
  rw [show PyData.canLay0 (.list (xs.map PyData.str)) = true from lay_strs xs h, show PyData.depth (.list (xs.map PyData.str)) = 1 by show PyData.depthAll _ + 1 = 1; rw [deep_strs]]
  decide
end My

namespace My
open PySem PySem.Spec PyProof.Rows L2 Gy Xl Xs Xt
/-! ### texts of some signs -/
def allIn (cs x : Str) : Bool := x.cps.toList.all fun c => decide (c ∈ cs.cps.toList)
def textOf (v : V) (cs : Str) (n : Int) : Bool := match v with
  | .str x => decide ((1 : Int) ≤ (x.length : Int)) && decide ((x.length : Int) ≤ n) && allIn cs x
  | _ => false
/-- a value whose kind is known -/
inductive Kd (K : PySem.W.Frag) (H : Hp) : V → Prop
  | str (x : Str) (h : x.length ≤ sizeLine) : Kd K H (.str x)
  | oth {v : V} {t : String} (ty : TyX K H v (.type t)) (n : kitB t "str" = some false) (no : ∀ x, v ≠ .str x) : Kd K H v
theorem textOf_oth {v : V} (no : ∀ x, v ≠ .str x) (cs : Str) (n : Int) : textOf v cs n = false := by
  cases v with
  | str x => exact absurd rfl (no x)
  | _ => rfl

section
variable {P : Program} {w : World} {K : PySem.W.Frag} {mg : Str → Option Value} {base : Heap}
def spText (K : PySem.W.Frag) : Sp := fun vs H Q _ => ∃ (v : V) (cs : Str) (n : Int), vs = [v, .str cs, .int n] ∧ Kd K H v ∧
  ∀ H', Same H H' → Q (.bl (textOf v cs n)) H'
theorem take_succ_all {l : List Nat} {i c : Nat} (h : l[i]? = some c) (p : Nat → Bool) : (l.take (i + 1)).map p = (l.take i).map p ++ [p c] := by
  rw [List.take_add_one, h, List.map_append]
  rfl
theorem ok_text {f : Addr} {fd : FuncData} (F : Fun K "is_text_of" "is_text_of" s_is_text_of f fd) (Y : Bn mg) :
    FnOk P w K mg base CX0 1 f fd ["value", "characters", "longest"] (spText K) := by
  refine F.ok sc_is_text_of (fun vs H Q E h => ?_) (fun cdv A outer s H vs Q E hr h => ?_)
  · obtain ⟨v, cs, n, rfl, _⟩ := h
    rfl
  · obtain ⟨v, cs, n, rfl, kd, q⟩ := h
    refine ⟨_, (pss_cons (ps_if (PW.pt (pw_or (pt_not (pt_val (pe_callB call_isi (by rfl) Y.isinstance (by decide +kernel) (pa_cons (pv 0) (pa_cons (pe_bltn (v := .ty "str") (by rfl) Y.str (by decide +kernel) rfl) pa_nil))))) (pw_or1 (pt_not (pt_chain op_le op_le pe_int (pe_callB call_len_str (by rfl) Y.len PySem.boot_len (pa_cons (pv 0) pa_nil)) (pv 2))))))
 (pss_one (ps_ret pe_bl))
 pss_nil)
 (pss_one (ps_ret (pe_callB (cr_all rfl) (by rfl) Y.all (by decide +kernel) (pa_cons (pe_lc (own := [("character", 3)]) (g := gName 3) (tt := tYes) rfl sc_is_text_of.nd (pi_str (pv 0)) (blkOk_by (N := ["value", "characters", "longest", "character"]) (sc := defScope s_is_text_of) (by decide +kernel)) (fun _ _ _ _ _ => (pg_name (i := 3) sc_is_text_of.nd rfl (Or.inl rfl))) (fun _ _ _ _ _ => pts_nil) (fun _ _ _ _ _ => (pe_cmpR op_in_sign (pv 3) (pv 1) rfl))) pa_nil))))), ?_⟩
    cases kd with
    | oth ty no nos =>
      refine ⟨v, rfl, v, _, _, _, false, rfl, .ty "str", ty, kit_ty no, _, rfl, ?_⟩
      refine iteT (iteT ?_)
      rw [textOf_oth nos] at q
      exact q _ (Same.refl _)
    | str x hx =>
      refine ⟨_, rfl, _, _, _, _, true, rfl, .ty "str", .base (.str x), kit_ty (by decide +kernel), _, rfl, ?_⟩
      refine iteF ?_
      have e1 : textOf (.str x) cs n = (decide ((1 : Int) ≤ (x.length : Int)) && decide ((x.length : Int) ≤ n) && allIn cs x) := rfl
      refine ⟨_, rfl, _, rfl, hx, 1, _, rfl, rfl, _, rfl, ?_⟩
      refine ite2 (fun c1 => ?_) (fun c1 => ?_)
      · refine ⟨_, rfl, _, _, rfl, rfl, _, rfl, ?_⟩
        cases c2 : decide ((x.length : Int) ≤ n) with
        | false =>
          refine iteT ?_
          rw [c2, Bool.and_false, Bool.false_and] at e1
          rw [e1] at q
          exact q _ (Same.refl _)
        | true =>
          refine iteF ?_
          rw [c1, c2, Bool.true_and, Bool.true_and] at e1
          refine ⟨_, rfl, x, rfl, fun D hD => ?_⟩
          refine lc_it (walk_str (z := x)) (fun i H' => Same H H' ∧ H' D = some (.lst (((x.cps.toList.take i).map fun c => decide (c ∈ cs.cps.toList)).map V.bl)))
            ⟨same_upd hD, upd_same⟩ (fun _ _ _ _ => trivial) ?_ ?_
          · rintro i y H1 H2 hi ⟨sm, hL⟩ ⟨rfl, c, hc, rfl⟩
            refine ⟨rfl, ?_⟩
            dsimp only [tYes]
            refine iteT ?_
            refine ⟨_, rfl, _, rfl, c, cs, rfl, rfl, _, hL, ?_, same_upd2 sm hD, ?_⟩
            · rw [List.length_map, List.length_map, List.length_take]
              refine Nat.lt_of_le_of_lt (Nat.min_le_left _ _) (Nat.lt_of_lt_of_le hi ?_)
              exact hx
            · have hc' : x.cps.toList[i]? = some c := by rw [Array.getElem?_toList]; exact hc
              rw [upd_same, take_succ_all hc', List.map_append]
              rfl
          · rintro H1 ⟨sm, hL⟩
            refine ⟨D, _, rfl, SqL.of hL, ?_⟩
            have e2 : ((x.cps.toList.take x.cps.size).map fun c => decide (c ∈ cs.cps.toList)).all id = allIn cs x := by
              rw [List.take_of_length_le (by rw [Array.length_toList]; exact Nat.le_refl _), List.all_map]
              rfl
            rw [e1] at q
            show Q (.bl (((x.cps.toList.take x.cps.size).map fun c => decide (c ∈ cs.cps.toList)).all id)) H1
            rw [e2]
            exact q _ sm
      · refine ⟨_, rfl, ?_⟩
        refine iteT ?_
        have c1' : decide ((1 : Int) ≤ (x.length : Int)) = false := by
          cases z : decide ((1 : Int) ≤ (x.length : Int)) with
          | false => rfl
          | true => exact absurd z c1
        rw [c1', Bool.false_and, Bool.false_and] at e1
        rw [e1] at q
        exact q _ (Same.refl _)
structure TxtC (mg : Str → Option Value) : Prop where
  lt : ∃ t, mg "LETTERS" = some (.str LET t)
  ln : ∃ t, mg "LONGEST_NAME" = some (.int 8 t)
def spHost (K : PySem.W.Frag) : Sp := fun vs H Q _ => ∃ v : V, vs = [v] ∧ Kd K H v ∧ ∀ H', Same H H' → Q (.bl (textOf v LET 8)) H'
theorem ok_host {f : Addr} {fd : FuncData} (F : Fun K "is_host_name" "is_host_name" s_is_host_name f fd) (C : TxtC mg) (G_is_text_of : Fk P w K mg base CX0 1 "is_text_of" ["value", "characters", "longest"] (spText K)) :
    FnOk P w K mg base CX0 2 f fd ["value"] (spHost K) := by
  obtain ⟨t1, e1⟩ := C.lt
  obtain ⟨t2, e2⟩ := C.ln
  refine F.ok sc_is_host_name (fun vs H Q E h => ?_) (fun cdv A outer s H vs Q E hr h => ?_)
  · obtain ⟨v, rfl, _⟩ := h
    rfl
  · obtain ⟨v, rfl, kd, q⟩ := h
    refine ⟨_, (pss_one (ps_ret (pe_callF G_is_text_of (hr.mono (by decide)) (by rfl) pass0 (pa_cons (pv 0) (pa_cons (pe_glob (v := .str LET) (by rfl) e1 ⟨_, rfl⟩) (pa_cons (pe_glob (v := .int 8) (by rfl) e2 ⟨_, rfl⟩) pa_nil)))))), ?_⟩
    exact ⟨v, rfl, v, LET, 8, rfl, kd, q⟩
def DIG : Str := "0123456789"
def WSG : Str := LET ++ DIG
structure TxtW (mg : Str → Option Value) : Prop where
  dg : ∃ t, mg "DIGITS" = some (.str DIG t)
  ln : ∃ t, mg "LONGEST_WORD" = some (.int 12 t)
def spWord (K : PySem.W.Frag) : Sp := fun vs H Q _ => ∃ v : V, vs = [v] ∧ Kd K H v ∧ ∀ H', Same H H' → Q (.bl (textOf v WSG 12)) H'
theorem ok_word {f : Addr} {fd : FuncData} (F : Fun K "is_word" "is_word" s_is_word f fd) (C : TxtC mg) (D : TxtW mg) (G_is_text_of : Fk P w K mg base CX0 1 "is_text_of" ["value", "characters", "longest"] (spText K)) :
    FnOk P w K mg base CX0 2 f fd ["value"] (spWord K) := by
  obtain ⟨t1, e1⟩ := C.lt
  obtain ⟨t2, e2⟩ := D.dg
  obtain ⟨t3, e3⟩ := D.ln
  refine F.ok sc_is_word (fun vs H Q E h => ?_) (fun cdv A outer s H vs Q E hr h => ?_)
  · obtain ⟨v, rfl, _⟩ := h
    rfl
  · obtain ⟨v, rfl, kd, q⟩ := h
    refine ⟨_, (pss_one (ps_ret (pe_callF G_is_text_of (hr.mono (by decide)) (by rfl) pass0 (pa_cons (pv 0) (pa_cons (pe_op op_add_str (pe_glob (v := .str LET) (by rfl) e1 ⟨_, rfl⟩) (pe_glob (v := .str DIG) (by rfl) e2 ⟨_, rfl⟩)) (pa_cons (pe_glob (v := .int 12) (by rfl) e3 ⟨_, rfl⟩) pa_nil)))))), ?_⟩
    exact ⟨v, rfl, LET, DIG, rfl, rfl, (by decide +kernel), v, WSG, 12, rfl, kd, q⟩
end
end My

namespace My
open PySem PySem.Spec PyProof.Rows L2 Gy Xl Xs Xt
/-! ### what a relink is, over data -/
mutual
/-- few and short parts -/
def sml : PyData → Bool
  | .str x => decide (x.length ≤ 20)
  | .int _ => true
  | .list ds => decide (ds.length ≤ 14) && smls ds
  | .tuple ds => decide (ds.length ≤ 14) && smls ds
  | .dict kvs => decide (kvs.length ≤ 1)
  | .none => true
  | .bool _ => true
def smls : List PyData → Bool
  | [] => true
  | d :: ds => sml d && smls ds
end
theorem smls_mem : ∀ {ds : List PyData} {d : PyData}, smls ds = true → d ∈ ds → sml d = true
  | e :: ds, d, h, m => by
    have h2 : sml e = true ∧ smls ds = true := by simpa only [smls, Bool.and_eq_true] using h
    rcases List.mem_cons.mp m with rfl | m
    · exact h2.1
    · exact smls_mem h2.2 m
def isHost : PyData → Bool
  | .str x => decide ((1 : Int) ≤ (x.length : Int)) && decide ((x.length : Int) ≤ 8) && allIn LET x
  | _ => false
def txts : List PyData → List Str
  | [] => []
  | .str x :: ds => x :: txts ds
  | _ :: ds => txts ds
def isPath : PyData → Bool
  | .tuple ds => decide (3 ≤ ds.length) && (ds.all isHost && decide ((txts ds).Nodup))
  | _ => false
/-- a whole number from 0 on, below another -/
def isIdx (n : Int) : PyData → Bool
  | .int i => decide (0 ≤ i) && decide (i < n)
  | _ => false
theorem isPath_t (ds : List PyData) : isPath (.tuple ds) = (decide (3 ≤ ds.length) && (ds.all isHost && decide ((txts ds).Nodup))) := rfl
theorem isIdx_i (n i : Int) : isIdx n (.int i) = (decide (0 ≤ i) && decide (i < n)) := rfl
def isRel : PyData → Bool
  | .tuple [.tuple ds, c] => isPath (.tuple ds) && isIdx ((ds.length : Int) - 1) c
  | _ => false
theorem txts_all : ∀ {ds : List PyData}, ds.all isHost = true → ds = (txts ds).map PyData.str
  | [], _ => rfl
  | d :: ds, h => by
    have h2 : isHost d = true ∧ ds.all isHost = true := by simpa only [List.all_cons, Bool.and_eq_true] using h
    cases d with
    | str x =>
      show PyData.str x :: ds = PyData.str x :: (txts ds).map PyData.str
      rw [← txts_all h2.2]
    | _ => cases h2.1
section
variable {P : Program} {w : World} {K : PySem.W.Frag} {mg : Str → Option Value} {base : Heap} {H : Hp}
theorem Dns.len : ∀ {vs : List V} {ds : List PyData}, Dns K H vs ds → vs.length = ds.length
  | _, _, .nil => rfl
  | _, _, .cons h t => by rw [List.length_cons, List.length_cons, Dns.len t]
theorem Dns.get : ∀ {vs : List V} {ds : List PyData}, Dns K H vs ds → ∀ {i : Nat} {v : V}, vs[i]? = some v → ∃ d, ds[i]? = some d ∧ Dn K H v d
  | _, _, .nil, i, v, e => by simp at e
  | _, _, .cons h t, 0, v, e => by
    simp at e
    subst e
    exact ⟨_, rfl, h⟩
  | _, _, .cons h t, i + 1, v, e => by
    simp only [List.getElem?_cons_succ] at e ⊢
    exact Dns.get t e
theorem Dns.txts : ∀ {vs : List V} {xs : List Str}, Dns K H vs (xs.map PyData.str) → vs = xs.map V.str
  | _, [], .nil => rfl
  | _, x :: xs, .cons h t => by
    cases h
    rw [Dns.txts t]
    rfl
theorem kd_dn {v : V} {d : PyData} (h : Dn K H v d) (s : sml d = true) : Kd K H v := by
  cases h with
  | non => exact .oth (.base .non) (by decide +kernel) (fun x z => nomatch z)
  | bl b => exact .oth (.base (.bl b)) (by decide +kernel) (fun x z => nomatch z)
  | int i => exact .oth (.base (.int i)) (by decide +kernel) (fun x z => nomatch z)
  | str x =>
    have : x.length ≤ 20 := by simpa only [sml, decide_eq_true_eq] using s
    exact .str x (le200 (by omega))
  | lst e _ => exact .oth (.base (.lst e)) (by decide +kernel) (fun x z => nomatch z)
  | tup e _ => exact .oth e.ty (by decide +kernel) (fun x z => nomatch z)
  | dic e => exact .oth (.base (.dK e)) (by decide +kernel) (fun x z => nomatch z)
  | dic1 e => exact .oth (.base (.dK e)) (by decide +kernel) (fun x z => nomatch z)
theorem host_dn {v : V} {d : PyData} (h : Dn K H v d) : textOf v LET 8 = isHost d := by
  cases h <;> rfl
/-- the kind of a value, and whether it is a tuple -/
theorem tup_or {v : V} {d : PyData} (h : Dn K H v d) : (∃ a xs ds, v = .ref a ∧ d = .tuple ds ∧ Tz H a xs ∧ Dns K H xs ds) ∨ ((∀ ds, d ≠ .tuple ds) ∧ ∃ t, TyX K H v (.type t) ∧ kitB t "tuple" = some false) := by
  cases h with
  | non => exact .inr ⟨(fun _ z => nomatch z), _, .base .non, by decide +kernel⟩
  | bl b => exact .inr ⟨(fun _ z => nomatch z), _, .base (.bl b), by decide +kernel⟩
  | int i => exact .inr ⟨(fun _ z => nomatch z), _, .base (.int i), by decide +kernel⟩
  | str x => exact .inr ⟨(fun _ z => nomatch z), _, .base (.str x), by decide +kernel⟩
  | lst e _ => exact .inr ⟨(fun _ z => nomatch z), _, .base (.lst e), by decide +kernel⟩
  | tup e t => exact .inl ⟨_, _, _, rfl, rfl, e, t⟩
  | dic e => exact .inr ⟨(fun _ z => nomatch z), _, .base (.dK e), by decide +kernel⟩
  | dic1 e => exact .inr ⟨(fun _ z => nomatch z), _, .base (.dK e), by decide +kernel⟩
/-- whether it is a whole number, or True, False -/
theorem int_or {v : V} {d : PyData} (h : Dn K H v d) : (∃ i, v = .int i ∧ d = .int i) ∨ (∃ b, v = .bl b ∧ d = .bool b) ∨ ((∀ i, d ≠ .int i) ∧ ∃ t, TyX K H v (.type t) ∧ kitB t "int" = some false) := by
  cases h with
  | non => exact .inr (.inr ⟨(fun _ z => nomatch z), _, .base .non, by decide +kernel⟩)
  | bl b => exact .inr (.inl ⟨b, rfl, rfl⟩)
  | int i => exact .inl ⟨i, rfl, rfl⟩
  | str x => exact .inr (.inr ⟨(fun _ z => nomatch z), _, .base (.str x), by decide +kernel⟩)
  | lst e _ => exact .inr (.inr ⟨(fun _ z => nomatch z), _, .base (.lst e), by decide +kernel⟩)
  | tup e _ => exact .inr (.inr ⟨(fun _ z => nomatch z), _, e.ty, by decide +kernel⟩)
  | dic e => exact .inr (.inr ⟨(fun _ z => nomatch z), _, .base (.dK e), by decide +kernel⟩)
  | dic1 e => exact .inr (.inr ⟨(fun _ z => nomatch z), _, .base (.dK e), by decide +kernel⟩)
def spPath (K : PySem.W.Frag) : Sp := fun vs H Q _ => ∃ (v : V) (d : PyData), vs = [v] ∧ Dn K H v d ∧ sml d = true ∧ ∀ H', Same H H' → Q (.bl (isPath d)) H'
theorem ok_path {f : Addr} {fd : FuncData} (F : Fun K "is_relink_path" "is_relink_path" s_is_relink_path f fd) (Y : Bn mg) (sp : ∃ t, mg "SHORTEST_PATH" = some (.int 3 t))
    (G_is_host_name : Fk P w K mg base CX0 2 "is_host_name" ["value"] (spHost K)) : FnOk P w K mg base CX0 3 f fd ["value"] (spPath K) := by
  obtain ⟨t1, e1⟩ := sp
  refine F.ok sc_is_relink_path (fun vs H Q E h => ?_) (fun cdv A outer s H vs Q E hr h => ?_)
  · obtain ⟨v, d, rfl, _⟩ := h
    rfl
  · obtain ⟨v, d, rfl, dn, sm, q⟩ := h
    refine ⟨_, (pss_cons (ps_if (PW.pt (pw_or (pt_not (pt_val (pe_callB call_isi (by rfl) Y.isinstance (by decide +kernel) (pa_cons (pv 0) (pa_cons (pe_bltn (v := .ty "tuple") (by rfl) Y.tuple (by decide +kernel) rfl) pa_nil))))) (pw_or1 (pt_cmpR op_lt (pe_callB call_len_seq (by rfl) Y.len PySem.boot_len (pa_cons (pv 0) pa_nil)) (pe_glob (v := .int 3) (by rfl) e1 ⟨_, rfl⟩) (nomark _)))))
 (pss_one (ps_ret pe_bl))
 pss_nil)
 (pss_one (ps_ret (pe_and (pe_callB (cr_all rfl) (by rfl) Y.all (by decide +kernel) (pa_cons (pe_lc (own := [("host", 1)]) (g := gName 1) (tt := tYes) rfl sc_is_relink_path.nd (pi_tup (pv 0)) (blkOk_by (N := ["value", "host"]) (sc := defScope s_is_relink_path) (by decide +kernel)) (fun _ _ _ _ _ => (pg_name (i := 1) sc_is_relink_path.nd rfl (Or.inl rfl))) (fun _ _ _ _ _ => pts_nil) (fun _ _ _ _ _ => (pe_callF G_is_host_name (hr.mono (by decide)) (by rfl) pass0 (pa_cons (pv 1) pa_nil)))) pa_nil)) (pe_one (pe_cmpR op_eq (pe_lenTexts (by rfl) Y.len (by rfl) Y.set (pv 0)) (pe_callB call_len_seq (by rfl) Y.len PySem.boot_len (pa_cons (pv 0) pa_nil)) (nomark _))))))), ?_⟩
    rcases tup_or dn with ⟨a, xs, ds, rfl, rfl, ha, hd⟩ | ⟨no, t, ty, kt⟩
    · have sm2 : ds.length ≤ 14 ∧ smls ds = true := by simpa only [sml, Bool.and_eq_true, decide_eq_true_eq] using sm
      have el := Dns.len hd
      refine ⟨_, rfl, _, _, _, _, true, rfl, .ty "tuple", ha.ty, kit_ty (by decide +kernel), _, rfl, iteF ?_⟩
      refine ⟨_, rfl, a, _, rfl, .inr (ha.sq), _, 3, rfl, rfl, _, rfl, ite2 (fun c => ?_) (fun c => ?_)⟩
      · have c' := of_decide_eq_true c
        have z : isPath (.tuple ds) = false := by
          rw [isPath_t]
          rw [decide_eq_false (show ¬ 3 ≤ ds.length by omega), Bool.false_and]
        rw [z] at q
        exact q _ (Same.refl _)
      · have c' : ¬ (xs.length : Int) < 3 := fun z => c (decide_eq_true z)
        refine ⟨_, rfl, a, rfl, ⟨_, ha.sq⟩, fun D hD => ?_⟩
        refine lc_it (walk_tup (K := K) (a := a) (xs := xs)) (fun i H' => Same H H' ∧ H' D = some (.lst (((ds.take i).map isHost).map V.bl))) ⟨same_upd hD, upd_same⟩ (fun i H' _ h => (ha.same h.1).sq) ?_ ?_
        · rintro i y H1 H2 hi ⟨s1, hL⟩ ⟨rfl, hy⟩
          obtain ⟨di, hdi, dni⟩ := Dns.get hd hy
          refine ⟨rfl, ?_⟩
          dsimp only [tYes]
          refine iteT ?_
          refine ⟨_, rfl, y, rfl, kd_dn (dni.same s1) (smls_mem sm2.2 (List.mem_of_getElem? hdi)), fun H3 s3 => ?_⟩
          refine ⟨_, s3 _ _ hL, ?_, same_upd2 (s1.trans s3) hD, ?_⟩
          · rw [List.length_map, List.length_map, List.length_take]
            exact small200 (by omega)
          · rw [upd_same, host_dn dni, List.take_add_one, hdi, List.map_append, List.map_append]
            rfl
        · rintro H1 ⟨s1, hL⟩
          rw [el, List.take_of_length_le (Nat.le_refl _)] at hL
          refine ⟨D, _, rfl, SqL.of hL, _, rfl, ite2 (fun c1 => ?_) (fun c1 => ?_)⟩
          · rw [List.all_map] at c1
            have c2 : ds.all isHost = true := c1
            have e := txts_all c2
            have ha1 := ha.same s1
            have ex : xs = (txts ds).map V.str := by
              rw [e] at hd
              exact Dns.txts hd
            have el2 : xs.length = (txts ds).length := by rw [ex, List.length_map]
            refine ⟨_, rfl, a, txts ds, rfl, (by rw [← ex]; exact ha1.sq), (by omega), _, rfl, a, _, rfl, .inr (ha1.sq), rfl, ?_⟩
            have z : isPath (.tuple ds) = decide (V.int ((numd (txts ds) (txts ds).length : Nat) : Int) = V.int (xs.length : Int)) := by
              rw [isPath_t]
              rw [c2, decide_eq_true (show 3 ≤ ds.length by omega), Bool.true_and, Bool.true_and]
              congr 1
              have nf := numd_full (txts ds) (txts ds).length (Nat.le_refl _)
              rw [List.take_of_length_le (Nat.le_refl _)] at nf
              rw [← nf, eq_iff_iff, el2]
              refine ⟨fun z => by rw [z], fun z => ?_⟩
              injection z with z
              omega
            rw [← z]
            exact q _ s1
          · rw [List.all_map] at c1
            have c2 : ds.all isHost = false := Bool.eq_false_iff.mpr c1
            have z : isPath (.tuple ds) = false := by
              rw [isPath_t]
              rw [c2, Bool.false_and, Bool.and_false]
            rw [z] at q
            exact q _ s1
    · refine ⟨v, rfl, v, _, _, _, false, rfl, .ty "tuple", ty, kit_ty kt, _, rfl, ?_⟩
      refine iteT (iteT ?_)
      have z : isPath d = false := by
        cases d with
        | tuple ds => exact absurd rfl (no ds)
        | _ => rfl
      rw [z] at q
      exact q _ (Same.refl _)
/-! ### whole numbers, the cut -/
/-- a whole number from another on -/
def isFrom (n : Int) : PyData → Bool
  | .int i => decide (n ≤ i)
  | _ => false
def spFrom (K : PySem.W.Frag) : Sp := fun vs H Q _ => ∃ (v : V) (n : Int) (d : PyData), vs = [v, .int n] ∧ Dn K H v d ∧ Q (.bl (isFrom n d)) H
theorem ok_from {f : Addr} {fd : FuncData} (F : Fun K "is_integer_from" "is_integer_from" s_is_integer_from f fd) (Y : Bn mg) : FnOk P w K mg base CX0 1 f fd ["value", "least"] (spFrom K) := by
  refine F.ok sc_is_integer_from (fun vs H Q E h => ?_) (fun cdv A outer s H vs Q E hr h => ?_)
  · obtain ⟨v, n, d, rfl, _⟩ := h
    rfl
  · obtain ⟨v, n, d, rfl, dn, q⟩ := h
    refine ⟨_, (pss_one (ps_ret (pe_and (pe_callB call_isi (by rfl) Y.isinstance (by decide +kernel) (pa_cons (pv 0) (pa_cons (pe_bltn (v := .ty "int") (by rfl) Y.int (by decide +kernel) rfl) pa_nil))) (pe_and (pe_not (pe_callB call_isi (by rfl) Y.isinstance (by decide +kernel) (pa_cons (pv 0) (pa_cons (pe_bltn (v := .ty "bool") (by rfl) Y.bool (by decide +kernel) rfl) pa_nil)))) (pe_one (pe_cmpR op_ge (pv 0) (pv 1) (nomark _))))))), ?_⟩
    rcases int_or dn with ⟨i, rfl, rfl⟩ | ⟨b, rfl, rfl⟩ | ⟨no, t, ty, kt⟩
    · refine ⟨_, rfl, _, _, _, _, true, rfl, .ty "int", .base (.int i), kit_ty (by decide +kernel), _, rfl, iteT ?_⟩
      refine ⟨_, rfl, _, _, _, _, false, rfl, .ty "bool", .base (.int i), kit_ty (by decide +kernel), _, rfl, _, rfl, iteT ?_⟩
      exact ⟨_, rfl, _, rfl, _, _, rfl, rfl, q⟩
    · refine ⟨_, rfl, _, _, _, _, true, rfl, .ty "int", .base (.bl b), kit_ty (by decide +kernel), _, rfl, iteT ?_⟩
      refine ⟨_, rfl, _, _, _, _, true, rfl, .ty "bool", .base (.bl b), kit_ty (by decide +kernel), _, rfl, _, rfl, iteF ?_⟩
      exact q
    · refine ⟨v, rfl, v, _, _, _, false, rfl, .ty "int", ty, kit_ty kt, _, rfl, iteF ?_⟩
      have z : isFrom n d = false := by
        cases d with
        | int i => exact absurd rfl (no i)
        | _ => rfl
      rw [z] at q
      exact q
def spIdx (K : PySem.W.Frag) : Sp := fun vs H Q _ => ∃ (v : V) (n : Int) (d : PyData), vs = [v, .int n] ∧ Dn K H v d ∧ Q (.bl (isIdx n d)) H
theorem ok_idx {f : Addr} {fd : FuncData} (F : Fun K "is_index" "is_index" s_is_index f fd) (G_is_integer_from : Fk P w K mg base CX0 1 "is_integer_from" ["value", "least"] (spFrom K)) : FnOk P w K mg base CX0 2 f fd ["value", "size"] (spIdx K) := by
  refine F.ok sc_is_index (fun vs H Q E h => ?_) (fun cdv A outer s H vs Q E hr h => ?_)
  · obtain ⟨v, n, d, rfl, _⟩ := h
    rfl
  · obtain ⟨v, n, d, rfl, dn, q⟩ := h
    refine ⟨_, (pss_one (ps_ret (pe_and (pe_callF G_is_integer_from (hr.mono (by decide)) (by rfl) pass0 (pa_cons (pv 0) (pa_cons pe_int pa_nil))) (pe_one (pe_cmpR op_lt (pv 0) (pv 1) (nomark _)))))), ?_⟩
    refine ⟨_, rfl, v, 0, d, rfl, dn, _, rfl, ite2 (fun c => ?_) (fun c => ?_)⟩
    · cases d with
      | int i =>
        cases dn
        refine ⟨_, rfl, _, rfl, _, _, rfl, rfl, ?_⟩
        have z : isIdx n (.int i) = decide (i < n) := by
          rw [isIdx_i]
          have c' : decide ((0 : Int) ≤ i) = true := c
          rw [c', Bool.true_and]
        rw [z] at q
        exact q
      | _ => cases c
    · have z : isIdx n d = false := by
        cases d with
        | int i =>
          rw [isIdx_i]
          have c' : decide ((0 : Int) ≤ i) = false := Bool.eq_false_iff.mpr c
          rw [c', Bool.false_and]
        | _ => rfl
      rw [z] at q
      exact q
def spCut (K : PySem.W.Frag) : Sp := fun vs H Q _ => ∃ (a : Addr) (xs : List V) (v : V) (d : PyData), vs = [.ref a, v] ∧ Tz H a xs ∧ Dn K H v d ∧ Q (.bl (isIdx ((xs.length : Int) - 1) d)) H
theorem ok_cut {f : Addr} {fd : FuncData} (F : Fun K "is_cut_of" "is_cut_of" s_is_cut_of f fd) (Y : Bn mg) (G_is_index : Fk P w K mg base CX0 2 "is_index" ["value", "size"] (spIdx K)) : FnOk P w K mg base CX0 3 f fd ["path", "value"] (spCut K) := by
  refine F.ok sc_is_cut_of (fun vs H Q E h => ?_) (fun cdv A outer s H vs Q E hr h => ?_)
  · obtain ⟨a, xs, v, d, rfl, _⟩ := h
    rfl
  · obtain ⟨a, xs, v, d, rfl, ha, dn, q⟩ := h
    refine ⟨_, (pss_one (ps_ret (pe_callF G_is_index (hr.mono (by decide)) (by rfl) pass0 (pa_cons (pv 1) (pa_cons (pe_op op_sub (pe_callB call_len_seq (by rfl) Y.len PySem.boot_len (pa_cons (pv 0) pa_nil)) pe_int) pa_nil))))), ?_⟩
    exact ⟨_, rfl, _, rfl, a, _, rfl, .inr ha.sq, _, _, rfl, rfl, v, _, d, rfl, dn, q⟩
/-! ### is_relink -/
def spRel (K : PySem.W.Frag) : Sp := fun vs H Q _ => ∃ (v : V) (d : PyData), vs = [v] ∧ Dn K H v d ∧ sml d = true ∧ ∀ H', Same H H' → Q (.bl (isRel d)) H'
theorem isRel_2 (p c : PyData) : isRel (.tuple [p, c]) = (isPath p && (match p with | .tuple ds => isIdx ((ds.length : Int) - 1) c | _ => false)) := by
  cases p <;> rfl
theorem isRel_n {ds : List PyData} (h : ds.length ≠ 2) : isRel (.tuple ds) = false := by
  match ds, h with
  | [], _ => rfl
  | [p], _ => cases p <;> rfl
  | p :: c :: e :: ds, _ => cases p <;> rfl
  | [p, c], h => exact absurd rfl h
theorem ok_rel {f : Addr} {fd : FuncData} (F : Fun K "is_relink" "is_relink" s_is_relink f fd) (Y : Bn mg) (G_is_relink_path : Fk P w K mg base CX0 3 "is_relink_path" ["value"] (spPath K)) (G_is_cut_of : Fk P w K mg base CX0 3 "is_cut_of" ["path", "value"] (spCut K)) :
    FnOk P w K mg base CX0 4 f fd ["value"] (spRel K) := by
  refine F.ok sc_is_relink (fun vs H Q E h => ?_) (fun cdv A outer s H vs Q E hr h => ?_)
  · obtain ⟨v, d, rfl, _⟩ := h
    rfl
  · obtain ⟨v, d, rfl, dn, sm, q⟩ := h
    refine ⟨_, (pss_cons (ps_if (PW.pt (pw_or (pt_not (pt_val (pe_callB call_isi (by rfl) Y.isinstance (by decide +kernel) (pa_cons (pv 0) (pa_cons (pe_bltn (v := .ty "tuple") (by rfl) Y.tuple (by decide +kernel) rfl) pa_nil))))) (pw_or1 (pt_cmpR op_ne (pe_callB call_len_seq (by rfl) Y.len PySem.boot_len (pa_cons (pv 0) pa_nil)) pe_int (nomark _)))))
 (pss_one (ps_ret pe_bl))
 pss_nil)
 (pss_cons (ps_asg (pv 0) (pg_tup (by rfl) (pgs_cons (pg_name (i := 1) sc_is_relink.nd rfl (Or.inl rfl)) (pgs_cons (pg_name (i := 2) sc_is_relink.nd rfl (Or.inl rfl)) pgs_nil))))
 (pss_one (ps_ret (pe_and (pe_callF G_is_relink_path (hr.mono (by decide)) (by rfl) pass0 (pa_cons (pv 1) pa_nil)) (pe_one (pe_callF G_is_cut_of (hr.mono (by decide)) (by rfl) pass0 (pa_cons (pv 1) (pa_cons (pv 2) pa_nil))))))))), ?_⟩
    rcases tup_or dn with ⟨a, xs, ds, rfl, rfl, ha, hd⟩ | ⟨no, t, ty, kt⟩
    · have sm2 : ds.length ≤ 14 ∧ smls ds = true := by simpa only [sml, Bool.and_eq_true, decide_eq_true_eq] using sm
      have el := Dns.len hd
      refine ⟨_, rfl, _, _, _, _, true, rfl, .ty "tuple", ha.ty, kit_ty (by decide +kernel), _, rfl, iteF ?_⟩
      refine ⟨_, rfl, a, _, rfl, .inr (ha.sq), rfl, _, rfl, ite2 (fun c => ?_) (fun c => ?_)⟩
      · have c' : ds.length ≠ 2 := fun z => by
          rw [decide_eq_true (show V.int (xs.length : Int) = V.int 2 by rw [el, z]; rfl)] at c
          cases c
        rw [isRel_n c'] at q
        exact q _ (Same.refl _)
      · have c' : xs.length = 2 := by
          have z : V.int (xs.length : Int) = V.int 2 := Decidable.of_not_not fun z => c (by rw [decide_eq_false z]; rfl)
          injection z with z
          omega
        obtain ⟨p, c0, rfl⟩ : ∃ p c0, xs = [p, c0] := by
          match xs, c' with
          | [p, c0], _ => exact ⟨p, c0, rfl⟩
        cases hd with
        | @cons _ _ dp _ h1 hd =>
        cases hd with
        | @cons _ _ dc _ h2 hd =>
          cases hd
          have m1 : sml dp = true := smls_mem sm2.2 List.mem_cons_self
          rw [isRel_2] at q
          refine ⟨_, rfl, a, _, rfl, ha.sq, rfl, _, _, rfl, _, _, rfl, rfl, ?_⟩
          refine ⟨_, rfl, p, dp, rfl, h1, m1, fun H1 s1 => ⟨_, rfl, ite2 (fun c1 => ?_) (fun c1 => ?_)⟩⟩
          · rw [c1, Bool.true_and] at q
            rcases tup_or h1 with ⟨b, ys, es, rfl, rfl, hb, hes⟩ | ⟨no, _⟩
            · have el2 := Dns.len hes
              refine ⟨_, rfl, _, rfl, b, ys, c0, dc, rfl, hb.same s1, h2.same s1, ?_⟩
              rw [el2]
              exact q _ s1
            · cases dp with
              | tuple es => exact absurd rfl (no es)
              | _ => cases c1
          · rw [Bool.eq_false_iff.mpr c1, Bool.false_and] at q
            exact q _ s1
    · refine ⟨v, rfl, v, _, _, _, false, rfl, .ty "tuple", ty, kit_ty kt, _, rfl, ?_⟩
      refine iteT (iteT ?_)
      have z : isRel d = false := by
        cases d with
        | tuple ds => exact absurd rfl (no ds)
        | _ => rfl
      rw [z] at q
      exact q _ (Same.refl _)
end
end My

namespace My
open PySem PySem.Spec PyProof.Rows L2 Gy Xl Xs Xt
/-- a class of errors with one field: raised -/
structure Rz (P : Program) (w : World) (K : PySem.W.Frag) (mg : Str → Option Value) (base : Heap) (nm f : Str) (C : Addr) : Prop where
  gm : mg nm = some (.ref C)
  ty : PySem.W.typeIn K (.ref C) = some (.type "type")
  ex : ∃ (fI : Addr) (fd : FuncData), XIn K C fI ∧ FnOk P w K mg base CX0 1 fI fd ["self", f] (spI1 C f) ∧ XB K fd ["self", f] [] (fun us _ => us) (fun vs _ => vs)
/-- what is wanted where C(v) is raised -/
def Ro (E : XK) (C : Addr) (f : Str) (v : V) (H : Hp) : Prop := ∀ H' dx, Same H H' → H' dx = some (.xd [(f, v)]) → E (.ref C) (some dx) H'
theorem Ro.same {E : XK} {C : Addr} {f : Str} {v : V} {H H1 : Hp} (h : Ro E C f v H) (s : Same H H1) : Ro E C f v H1 := fun H' dx s1 e => h H' dx (s.trans s1) e
/-- the data of a relink -/
def reld (xs : List Str) (c : Nat) : PyData := .tuple [.tuple (xs.map PyData.str), .int (c : Int)]
theorem rel_parts {d : PyData} (h : isRel d = true) : ∃ (xs : List Str) (c : Nat), d = reld xs c ∧ 3 ≤ xs.length ∧ xs.Nodup ∧ c + 2 ≤ xs.length ∧ (xs.map PyData.str).all isHost = true := by
  match d, h with
  | .tuple [.tuple ds, c], h =>
    have h2 : isPath (.tuple ds) = true ∧ isIdx ((ds.length : Int) - 1) c = true := by simpa only [isRel, Bool.and_eq_true] using h
    have h3 := h2.1
    rw [isPath_t, Bool.and_eq_true, Bool.and_eq_true, decide_eq_true_eq, decide_eq_true_eq] at h3
    obtain ⟨l3, ah, nd⟩ := h3
    have e := txts_all ah
    have el : ds.length = (txts ds).length := by
      have := congrArg List.length e
      rw [List.length_map] at this
      exact this
    match c, h2.2 with
    | .int i, hc =>
      rw [isIdx_i, Bool.and_eq_true, decide_eq_true_eq, decide_eq_true_eq] at hc
      obtain ⟨j, rfl⟩ := Int.eq_ofNat_of_zero_le hc.1
      refine ⟨txts ds, j, ?_, by omega, nd, by omega, by rw [← e]; exact ah⟩
      unfold reld
      rw [← e]
section
variable {P : Program} {w : World} {K : PySem.W.Frag} {mg : Str → Option Value} {base : Heap} {H : Hp}
theorem rel_heap {v : V} {xs : List Str} {c : Nat} (h : Dn K H v (reld xs c)) : ∃ a b, v = .ref a ∧ Tz H a [.ref b, .int (c : Int)] ∧ Tz H b (xs.map V.str) := by
  cases h with
  | tup ha hs =>
    cases hs with
    | cons h1 h2 =>
      cases h2 with
      | cons h2 h3 =>
        cases h3
        cases h1 with
        | tup hb hx =>
          cases h2
          have e := Dns.txts hx
          subst e
          exact ⟨_, _, rfl, ha, hb⟩
theorem at_nat {xs : List Str} {i : Nat} (h : i < xs.length) : atI (xs.map V.str) (i : Int) = some (.str (xs.getD i "")) := by
  refine atI_nat ?_
  rw [List.getElem?_map, List.getD_eq_getElem?_getD, List.getElem?_eq_getElem h]
  rfl
theorem at_end {xs : List Str} (h : 0 < xs.length) : atI (xs.map V.str) (-1) = some (.str (xs.getD (xs.length - 1) "")) := by
  have ne : xs ≠ [] := fun z => by rw [z] at h; cases h
  have e := List.dropLast_concat_getLast ne
  have g : xs.getD (xs.length - 1) "" = xs.getLast ne := by
    rw [List.getD_eq_getElem?_getD, List.getElem?_eq_getElem (by omega), List.getLast_eq_getElem]
    rfl
  rw [g]
  conv => lhs; rw [← e]
  rw [List.map_append]
  exact atI_last _ _
def spChk (K : PySem.W.Frag) (C : Addr) : Sp := fun vs H Q E => ∃ (v : V) (d : PyData), vs = [v] ∧ Dn K H v d ∧ sml d = true ∧ (isRel d = true → ∀ H', Same H H' → Q .non H') ∧ (isRel d = false → Ro E C "value" v H)
theorem ok_chk {f C : Addr} {fd : FuncData} (F : Fun K "check_relink" "check_relink" s_check_relink f fd) (R : Rz P w K mg base "InvalidRelink" "value" C)
    (G_is_relink : Fk P w K mg base CX0 4 "is_relink" ["value"] (spRel K)) : FnOk P w K mg base (L2.CX P w) 5 f fd ["value"] (spChk K C) := by
  obtain ⟨fI, fdI, XI, GI, bI⟩ := R.ex
  refine F.okX sc_check_relink (fun vs H Q E h => ?_) (fun cdv A outer s H vs Q E hr h => ?_)
  · obtain ⟨v, d, rfl, _⟩ := h
    rfl
  · obtain ⟨v, d, rfl, dn, sm, q1, q2⟩ := h
    refine ⟨_, (pss_one (ps_if (pt_not (pt_val (pe_callF G_is_relink (hr.mono (by decide)) (by rfl) pass0 (pa_cons (pv 0) pa_nil))))
 (pss_one (ps_raise1 rfl (takes_of rfl rfl rfl rfl) XI R.ty GI (hr.mono (by decide)) bI (by rfl) R.gm (pa_cons (pv 0) pa_nil)))
 pss_nil)), ?_⟩
    refine ⟨_, rfl, v, d, rfl, dn, sm, fun H1 s1 => ⟨_, rfl, ?_⟩⟩
    cases c : isRel d with
    | true => exact iteF (q1 c _ s1)
    | false =>
      refine iteT ⟨_, rfl, v, rfl, fun dx nd => ?_⟩
      exact q2 c _ dx (s1.trans (same_upd nd)) upd_same
/-! ### the place of a host -/
def posn (xs : List Str) : PyData → Option Nat
  | .str x => if x ∈ xs then some (xs.idxOf x) else none
  | _ => none
/-- a query of a relink and a host -/
def spQh (K : PySem.W.Frag) (C U : Addr) (g : Nat → Nat → V) : Sp := fun vs H Q E => ∃ (v h : V) (d e : PyData), vs = [v, h] ∧ Dn K H v d ∧ sml d = true ∧ Dn K H h e ∧ sml e = true ∧ (isRel d = false → Ro E C "value" v H) ∧
  ∀ xs c, d = reld xs c → isRel d = true → (∀ j, posn xs e = some j → ∀ H', Same H H' → Q (g j c) H') ∧ (posn xs e = none → Ro E U "host" h H)
theorem ok_pos {f C U : Addr} {fd : FuncData} (F : Fun K "position" "position" s_position f fd) (R : Rz P w K mg base "UnknownHost" "host" U) (G_check_relink : Fk P w K mg base (L2.CX P w) 5 "check_relink" ["value"] (spChk K C))
    (G_is_host_name : Fk P w K mg base CX0 2 "is_host_name" ["value"] (spHost K)) : FnOk P w K mg base (L2.CX P w) 6 f fd ["relink", "host"] (spQh K C U fun j _ => .int (j : Int)) := by
  obtain ⟨fI, fdI, XI, GI, bI⟩ := R.ex
  refine F.okX sc_position (fun vs H Q E h => ?_) (fun cdv A outer s H vs Q E hr h => ?_)
  · obtain ⟨v, h, d, e, rfl, _⟩ := h
    rfl
  · obtain ⟨v, h, d, e, rfl, dn, sm, dh, sh, q2, q1⟩ := h
    refine ⟨_, (pss_cons (ps_expr (pe_callF G_check_relink (hr.mono (by decide)) (by rfl) (passes_call (E := E) (takes_of rfl rfl rfl rfl) (fun _ _ _ _ h => h)) (pa_cons (pv 0) pa_nil)))
 (pss_cons (ps_set (i := 2) sc_position.nd rfl (.inl rfl) (pe_ix ix_tup (pv 0) pe_int (fun _ _ => rfl)))
 (pss_cons (ps_if (PW.pt (pw_or (pt_not (pt_val (pe_callF G_is_host_name (hr.mono (by decide)) (by rfl) pass0 (pa_cons (pv 1) pa_nil)))) (pw_or1 (pt_cmpR op_notIn_seq (pv 1) (pv 2) rfl))))
 (pss_one (ps_raise1 rfl (takes_of rfl rfl rfl rfl) XI R.ty GI (hr.mono (by decide)) bI (by rfl) R.gm (pa_cons (pv 1) pa_nil)))
 pss_nil)
 (pss_one (ps_ret (pe_tm PySem.F.slot_tuple_index PySem.F.type_tuple_index mt_tup_index (pv 2) (pa_cons (pv 1) pa_nil))))))), ?_⟩
    refine ⟨_, rfl, v, d, rfl, dn, sm, fun c H1 s1 => ?_, q2⟩
    obtain ⟨xs, k, rfl, l3, nd, kl, ah⟩ := rel_parts c
    obtain ⟨a, b, rfl, ha, hb⟩ := rel_heap dn
    have ha1 := ha.same s1
    obtain ⟨q3, q4⟩ := q1 xs k rfl c
    refine ⟨_, rfl, a, _, 0, .ref b, rfl, rfl, ha1.sq, atI_nat (j := 0) rfl, ?_⟩
    refine ⟨_, rfl, h, rfl, kd_dn (dh.same s1) sh, fun H2 s2 => ?_⟩
    have s02 := s1.trans s2
    have hb2 := hb.same s02
    rw [host_dn dh]
    refine ⟨_, rfl, ?_⟩
    cases ce : isHost e with
    | false =>
      refine iteT (iteT ⟨_, rfl, h, rfl, fun dx nx => ?_⟩)
      have no : posn xs e = none := by
        cases e with
        | str x =>
          refine if_neg fun m => ?_
          rw [List.all_eq_true] at ah
          rw [ah _ (List.mem_map_of_mem m)] at ce
          cases ce
        | _ => rfl
      exact q4 no _ dx (s02.trans (same_upd nx)) upd_same
    | true =>
      refine iteF ?_
      cases dh with
      | str x =>
        refine ⟨_, rfl, _, rfl, b, _, rfl, .inr (hb2.sq), rfl, flat_strs xs, _, rfl, ite2 (fun c9 => ?_) (fun c9 => ?_)⟩
        · have c9' : (!inV (.str x) (xs.map V.str)) = true := c9
          rw [inV_strs] at c9'
          have no : posn xs (.str x) = none := if_neg fun m => by
            rw [decide_eq_true m] at c9'
            cases c9'
          exact ⟨_, rfl, _, rfl, fun dx nx => q4 no _ dx (s02.trans (same_upd nx)) upd_same⟩
        · have c9' : ¬ (!inV (.str x) (xs.map V.str)) = true := c9
          rw [inV_strs] at c9'
          have m : x ∈ xs := by
            cases z : decide (x ∈ xs) with
            | true => exact of_decide_eq_true z
            | false => exact absurd (by rw [z]; rfl) c9'
          have lt := List.idxOf_lt_length_of_mem m
          refine ⟨_, rfl, ⟨b, _, rfl, hb2⟩, _, rfl, b, xs, x, xs.idxOf x, rfl, rfl, hb2.sq, ?_, ?_, q3 _ (if_pos m) _ s02⟩
          · rw [List.getElem?_eq_getElem lt, List.getElem_idxOf]
          · intro j lj ej
            have lj2 : j < xs.length := Nat.lt_trans lj lt
            rw [List.getElem?_eq_getElem lj2] at ej
            injection ej with ej
            refine absurd (ej.trans (List.getElem_idxOf lt).symm) (List.pairwise_iff_getElem.mp nd j _ lj2 lt lj)
      | _ => cases ce
end
end My

namespace My
open PySem PySem.Spec PyProof.Rows L2 Gy Xl Xs Xt
/-! ### texts or None, cuts of a path, drawn relinks -/
def optV : Option Str → V
  | none => .non
  | some s => .str s
/-- the text at a place, counted from the end -/
def fromEnd (xs : List Str) (n : Nat) : Str := xs.getD (xs.length - n) ""
theorem inV_non : ∀ xs : List Str, inV .non (xs.map V.str) = false
  | [] => rfl
  | x :: xs => by
    have ih := inV_non xs
    unfold inV at ih ⊢
    rw [List.map_cons, List.any_cons, ih]
    rfl
theorem flat_opt (src : Option Str) : flatV (optV src) = true := by
  cases src <;> rfl
/-- the one text at a place, or none -/
def one (xs : List Str) (m n : Nat) : List Str := (xs.drop m).take (n - m)
theorem cut_one (xs : List Str) (m n : Nat) (hm : m ≤ xs.length) : cutV (xs.map V.str) (some (m : Int)) (some (n : Int)) = (one xs m n).map V.str := by
  unfold cutV one
  rw [HT.sIx_nat, HT.sIx_nat, List.length_map, Nat.min_eq_left hm, ← List.map_drop, ← List.map_take]
  congr 1
  by_cases h : n ≤ xs.length
  · rw [Nat.min_eq_left h]
  · rw [Nat.min_eq_right (by omega), List.take_of_length_le (by rw [List.length_drop]; omega), List.take_of_length_le (by rw [List.length_drop]; omega)]
theorem one_at {xs : List Str} {m : Nat} (h : m < xs.length) : one xs m (m + 1) = [xs.getD m ""] := by
  unfold one
  rw [show m + 1 - m = 1 by omega, List.drop_eq_getElem_cons h, List.take_succ_cons, List.take_zero, List.getD_eq_getElem?_getD, List.getElem?_eq_getElem h]
  rfl
theorem one_out {xs : List Str} {m n : Nat} (h : xs.length ≤ m) : one xs m n = [] := by
  unfold one
  rw [List.drop_eq_nil_of_le h, List.take_nil]
theorem one_nil {xs : List Str} {m : Nat} : one xs m m = [] := by
  unfold one
  rw [Nat.sub_self]
  rfl
theorem one_len (xs : List Str) (m : Nat) : (one xs m (m + 1)).length ≤ 1 := by
  unfold one
  rw [List.length_take]
  omega
theorem one_sub {xs : List Str} {m n : Nat} {y : Str} (h : y ∈ one xs m n) : y ∈ xs := List.mem_of_mem_drop (List.mem_of_mem_take h)
theorem scal_opt (y : Str) (src : Option Str) : scal (.str y) (optV src) = true := by
  cases src <;> rfl
theorem _root_.Xt.Tz.but {H H' : Hp} {a r : Addr} {xs : List V} (h : Tz H a xs) (R : Rng H r) (b : But r H H') : Tz H' a xs := by
  obtain ⟨o, e, c⟩ := h
  refine ⟨o, b a _ (fun z => ?_) e, c⟩
  obtain ⟨x, y, e2, _⟩ := R
  rw [z, e2] at e
  cases e
theorem _root_.Xt.Tz.updL {H : Hp} {a D : Addr} {xs l : List V} {o : HO} (h : Tz H a xs) (hD : H D = some (.lst l)) : Tz (upd H D o) a xs := by
  obtain ⟨ob, e, c⟩ := h
  refine ⟨ob, ?_, c⟩
  rw [upd_ne (fun z => by rw [z, hD] at e; cases e)]
  exact e
theorem cut2 (xs : List Str) (h : 2 ≤ xs.length) : cutV (xs.map V.str) (some 2) none = (xs.drop 2).map V.str ∧ cutV (xs.map V.str) none (some 2) = (xs.take 2).map V.str := by
  have e : HT.sIx (xs.map V.str).length 0 (some 2) = 2 := by
    rw [show (some 2 : Option Int) = some ((2 : Nat) : Int) from rfl, HT.sIx_nat, List.length_map]
    omega
  have e2 : HT.sIx (xs.map V.str).length (xs.map V.str).length (some 2) = 2 := by
    rw [show (some 2 : Option Int) = some ((2 : Nat) : Int) from rfl, HT.sIx_nat, List.length_map]
    omega
  constructor
  · unfold cutV
    rw [e, HT.sIx_none, List.take_of_length_le (by rw [List.length_drop]; exact Nat.le_refl _), List.map_drop]
  · unfold cutV
    rw [e2, HT.sIx_none, List.drop_zero, Nat.sub_zero, List.map_take]
def spLaw (K : PySem.W.Frag) : Sp := fun vs H Q _ => ∃ (a : Addr) (ns : List Int), vs = [.ref a] ∧ SqL K H a (ns.map V.int) ∧ ns.length ≤ 63 ∧ ∀ H', Q (.bl true) H'
theorem at_end2 {xs : List Str} (h : 2 ≤ xs.length) : atI (xs.map V.str) (-2) = some (.str (fromEnd xs 2)) := by
  have l : (xs.map V.str).length = xs.length := List.length_map ..
  have e : ixN (xs.map V.str).length (-2) = some (xs.length - 2) := by
    unfold ixN
    rw [if_neg (by omega), if_pos (by omega), l]
    congr 1
    omega
  show (ixN (xs.map V.str).length (-2)).bind (fun j => (xs.map V.str)[j]?) = _
  rw [e]
  show (xs.map V.str)[xs.length - 2]? = _
  unfold fromEnd
  rw [List.getD_eq_getElem?_getD, List.getElem?_map, List.getElem?_eq_getElem (by omega)]
  rfl
theorem strs_inj : ∀ {a b : List Str}, a.map PyData.str = b.map PyData.str → a = b
  | [], [], _ => rfl
  | [], y :: b, h => nomatch h
  | x :: a, [], h => nomatch h
  | x :: a, y :: b, h => by
    rw [List.map_cons, List.map_cons] at h
    injection h with h1 h2
    injection h1 with h1
    rw [h1, strs_inj h2]
theorem reld_inj {xs ys : List Str} {c d : Nat} (h : reld xs c = reld ys d) : xs = ys ∧ c = d := by
  unfold reld at h
  injection h with e1
  injection e1 with e1 e2
  injection e1 with e1
  injection e2 with e2
  injection e2 with e2
  exact ⟨strs_inj e1, by omega⟩
theorem txts_map : ∀ xs : List Str, txts (xs.map PyData.str) = xs
  | [] => rfl
  | x :: xs => by
    show x :: txts (xs.map PyData.str) = _
    rw [txts_map xs]
theorem host_of {x : Str} (h : Nm x) : isHost (.str x) = true := by
  obtain ⟨h1, h2, h3⟩ := h
  show (decide ((1 : Int) ≤ (x.length : Int)) && decide ((x.length : Int) ≤ 8) && allIn LET x) = true
  rw [decide_eq_true (show (1 : Int) ≤ (x.length : Int) by omega), decide_eq_true (show (x.length : Int) ≤ 8 by omega)]
  unfold allIn
  rw [Bool.true_and, Bool.true_and, List.all_eq_true]
  exact fun c hc => decide_eq_true (h3 c hc)
/-- a drawn relink is one -/
theorem rel_of {xs : List Str} {c : Nat} (nm : ∀ x ∈ xs, Nm x) (nd : xs.Nodup) (l3 : 3 ≤ xs.length) (cl : c + 2 ≤ xs.length) : isRel (reld xs c) = true := by
  show (isPath (.tuple (xs.map PyData.str)) && isIdx (((xs.map PyData.str).length : Int) - 1) (.int (c : Int))) = true
  rw [isPath_t, isIdx_i, txts_map, List.length_map, decide_eq_true l3, decide_eq_true nd, decide_eq_true (show (0 : Int) ≤ (c : Int) by omega), decide_eq_true (show (c : Int) < (xs.length : Int) - 1 by omega)]
  have e : (xs.map PyData.str).all isHost = true := by
    rw [List.all_eq_true]
    intro d hd
    obtain ⟨x, hx, rfl⟩ := List.mem_map.mp hd
    exact host_of (nm x hx)
  rw [e]
  rfl
theorem smls_strs : ∀ {xs : List Str}, (∀ x ∈ xs, Nm x) → smls (xs.map PyData.str) = true
  | [], _ => rfl
  | x :: xs, h => by
    show (decide (x.length ≤ 20) && smls (xs.map PyData.str)) = true
    have := (h x List.mem_cons_self).2.1
    rw [smls_strs fun y hy => h y (List.mem_cons_of_mem _ hy), decide_eq_true (show x.length ≤ 20 by omega)]
    rfl
theorem sml_reld {xs : List Str} {c : Nat} (nm : ∀ x ∈ xs, Nm x) (l14 : xs.length ≤ 14) (cl : c + 2 ≤ xs.length) : sml (reld xs c) = true := by
  show (decide (2 ≤ 14) && ((decide ((xs.map PyData.str).length ≤ 14) && smls (xs.map PyData.str)) && (true && true))) = true
  rw [smls_strs nm, List.length_map, decide_eq_true l14]
  rfl
theorem dns_strs {K : PySem.W.Frag} {H : Hp} : ∀ xs : List Str, Dns K H (xs.map V.str) (xs.map PyData.str)
  | [] => .nil
  | x :: xs => .cons (.str x) (dns_strs xs)
theorem dn_reld {K : PySem.W.Frag} {H : Hp} {a b : Addr} {xs : List Str} {c : Nat} (ha : Tz H a [.ref b, .int (c : Int)]) (hb : Tz H b (xs.map V.str)) : Dn K H (.ref a) (reld xs c) :=
  .tup ha (.cons (.tup hb (dns_strs xs)) (.cons (.int _) .nil))
theorem getD_mem {xs : List Str} {j : Nat} (h : j < xs.length) : xs.getD j "" ∈ xs := by
  rw [List.getD_eq_getElem?_getD, List.getElem?_eq_getElem h]
  exact List.getElem_mem h
theorem posn_at {xs : List Str} {j : Nat} (nd : xs.Nodup) (h : j < xs.length) : posn xs (.str (xs.getD j "")) = some j := by
  show (if xs.getD j "" ∈ xs then some (xs.idxOf (xs.getD j "")) else none) = some j
  rw [if_pos (getD_mem h), List.getD_eq_getElem?_getD, List.getElem?_eq_getElem h]
  show some (xs.idxOf xs[j]) = some j
  rw [nd.idxOf_getElem j h]
theorem posn_lt {xs : List Str} {e : PyData} {j : Nat} (h : posn xs e = some j) : j < xs.length := by
  cases e with
  | str x =>
    have h' : (if x ∈ xs then some (xs.idxOf x) else none) = some j := h
    by_cases m : x ∈ xs
    · rw [if_pos m] at h'
      cases h'
      exact List.idxOf_lt_length_of_mem m
    · rw [if_neg m] at h'
      cases h'
  | _ => cases h
end My

/-! An own exception of two fields raised; a call of what a subscript gives. -/
namespace Xl
open PySem PySem.Spec PyProof.Rows L2 Gy
def spI2 (C : Addr) (f1 f2 : Str) : Sp := fun vs H Q _ => ∃ (a : Addr) (v1 v2 : V), vs = [.ref a, v1, v2] ∧ H a = some (exo a C none) ∧
  ∀ dx, H dx = none → dx ≠ a → Q .non (upd (upd (upd H dx (exd dx [(f1, v1)])) a (exo a C (some dx))) dx (exd dx [(f2, v2), (f1, v1)]))
theorem del_made2 {H : Hp} {a dx C : Addr} {f1 f2 : Str} {v1 v2 : V} (n : H a = none) (ne : dx ≠ a) :
    upd (del (upd (upd (upd (upd H a (exo a C none)) dx (exd dx [(f1, v1)])) a (exo a C (some dx))) dx (exd dx [(f2, v2), (f1, v1)])) a) dx (.xd [(f2, v2), (f1, v1)]) = upd H dx (.xd [(f2, v2), (f1, v1)]) := by
  funext b
  by_cases h1 : b = dx
  · rw [h1, upd_same, upd_same]
  · rw [upd_ne h1, upd_ne h1]
    by_cases h2 : b = a
    · rw [h2, del_same, n]
    · rw [del_ne h2, upd_ne h1, upd_ne h2, upd_ne h1, upd_ne h2]
section
variable {X : Cx} {C fI : Addr} {fd : FuncData} {f1 f2 x : Str} {e e2 : Expr} {p pos : Pos}
/-- C(e, e2), to be raised -/
def tMk2 (C : Addr) (f1 f2 : Str) (t : TA) : L2.St → Hp → XK → Prop := fun σ H Q => t σ H fun vs H1 => ∃ v1 v2, vs = [v1, v2] ∧ ∀ d, H1 d = none → Q (.ref C) (some d) (upd H1 d (.xd [(f2, v2), (f1, v1)]))
theorem pmk_x2 {t : TA} (T : XIn X.K C fI) (ty : PySem.W.typeIn X.K (.ref C) = some (.type "type")) (F : FnOk X.prog X.w X.K X.mg X.base CX0 1 fI fd ["self", f1, f2] (spI2 C f1 f2)) (hr : Room 2 X.A)
    (hb : XB X.K fd ["self", f1, f2] [] (fun us _ => us) (fun vs _ => vs)) (hg : Gl X x) (hm : X.mg x = some (.ref C)) (ha : PA X [e, e2] t)
    (hdb : (x == ("__debug__" : Str)) = false := by decide) (hst : starEach [e, e2] X.env = (false, eval e X.env) :: starEach [e2] X.env := by rfl) (hpl : (backTo pos (starEach [e2] X.env)).any (·.1) = false := by rfl) :
    PMk X (.Call (.Name x p) [e, e2] [] pos) (tMk2 C f1 f2 t) := by
  intro pins s σ H Q I h
  refine wpAny_Call_Name_kw (ld_glob I hg hm ?_ hdb)
  refine PySem.W.callWith_K (h₀ := X.base) I.ok.mod.kin T.kp (thn (ha.run pos pins s σ H _ I h) ?_) hst hpl
  rintro us s1 ⟨vs, H1, I1, r1, v1, v2, rfl, q1⟩
  refine ⟨I1.kIn, ?_⟩
  show wpAny _ _ (call (.ref C) us) _ _ _
  obtain ⟨B, nI, iI, bmB, BF, _, ii, _⟩ := T.base
  obtain ⟨nm, N', qn, bs, bm, hdct, sn, sub, ab, col, dd, k0, k1, k2, k3, k5, cl, hT⟩ := PySem.W.excInit_of I1.kIn ii
  obtain ⟨hp, g', dr, tk', os⟩ := s1
  have big : hp.objs.size ≤ hp.objs.size + 1 := Nat.le_succ _
  have na : H1 (hp.objs.size + 1) = none := I1.hok.fresh big
  have keep : ∀ b o, hp.get? b = some o → ((hp.push (PySem.W.kdv_tup us)).push (PySem.PX.excO C hp.objs.size)).get? b = some o := fun b o e =>
    Heap.get?_push_of_some _ (Heap.get?_push_of_some _ e)
  have new : ((hp.push (PySem.W.kdv_tup us)).push (PySem.PX.excO C hp.objs.size)).get? (hp.objs.size + 1) = some (PySem.PX.excO C hp.objs.size) := by heap_get
  have I2 := I1.laid (t' := tk') (a := hp.objs.size + 1) (o := exo (hp.objs.size + 1) C none) keep big (exo_ok new)
  have r2 : Vals [V.ref (hp.objs.size + 1), v1, v2] (Value.ref (hp.objs.size + 1) :: us) := .cons rfl r1
  have hq : spI2 C f1 f2 [V.ref (hp.objs.size + 1), v1, v2] (upd H1 (hp.objs.size + 1) (exo (hp.objs.size + 1) C none))
      (fun r H2 => r = .non ∧ ∃ dx, dx ≠ hp.objs.size + 1 ∧ upd H1 (hp.objs.size + 1) (exo (hp.objs.size + 1) C none) dx = none ∧
        H2 = upd (upd (upd (upd H1 (hp.objs.size + 1) (exo (hp.objs.size + 1) C none)) dx (exd dx [(f1, v1)])) (hp.objs.size + 1) (exo (hp.objs.size + 1) C (some dx))) dx (exd dx [(f2, v2), (f1, v1)])) (fun _ _ _ => False) :=
    ⟨_, v1, v2, rfl, upd_same, fun dx nd ne => ⟨rfl, dx, ne, nd, rfl⟩⟩
  have bl := hb.to ⟨_, g', dr, tk', os⟩ (Value.ref (hp.objs.size + 1)) us [] I2.kIn (by rw [← r2.length]; rfl)
  refine wpAny_call (PySem.Xg.kw_call BF hT cl (PySem.W.looks_findIn I1.kIn T.ini) (fun self => PySem.W.bind_fn I1.kIn self T.tf) ?_ (codeAny_mono (F.run _ X.stack _ _ _ _ _ _ _ (hr.make C us []) (I2.env0.make C us []) bl r2 hq) ?_))
  · rw [← r1.length, sizeLine_eq]
    show 2 ≤ 16777216
    decide
  · rintro (er | (_ | _ | _ | u)) s' z
    · exact (show False from z).elim
    · exact z.elim
    · exact z.elim
    · exact z.elim
    · obtain ⟨r, H2, os2, bare2, un2, hok2, rv, er, dx, ne, nd, e2⟩ := z
      subst er
      obtain ⟨h2, g2, d2, t2, os'⟩ := s'
      subst e2
      refine ⟨rv, mk_end (raises_own T.ex ty) I1 big keep un2 hok2 os2 bare2 ((upd_ne ne.symm).trans upd_same) upd_same ((upd_ne ne).symm.trans nd) ?_⟩
      rw [del_made2 na ne]
      exact q1 dx ((upd_ne ne).symm.trans nd)
/-- raise C(e, e2) -/
theorem ps_raise2 {W : WX} {t : TA} {rp : Pos} (hc : X.calm = true) (tk : Takes X W) (T : XIn X.K C fI) (ty : PySem.W.typeIn X.K (.ref C) = some (.type "type")) (F : FnOk X.prog X.w X.K X.mg X.base CX0 1 fI fd ["self", f1, f2] (spI2 C f1 f2)) (hr : Room 2 X.A)
    (hb : XB X.K fd ["self", f1, f2] [] (fun us _ => us) (fun vs _ => vs)) (hg : Gl X x) (hm : X.mg x = some (.ref C)) (ha : PA X [e, e2] t)
    (hdb : (x == ("__debug__" : Str)) = false := by decide) (hst : starEach [e, e2] X.env = (false, eval e X.env) :: starEach [e2] X.env := by rfl) (hpl : (backTo pos (starEach [e2] X.env)).any (·.1) = false := by rfl) :
    PS X (.Raise (some (.Call (.Name x p) [e, e2] [] pos)) none rp) (fun _ σ H => tMk2 C f1 f2 t σ H fun cls d H' => W cls d σ H') :=
  ps_raise hc tk (pmk_x2 T ty F hr hb hg hm ha hdb hst hpl)
end
end Xl
namespace My
open PySem PySem.Spec PyProof.Rows L2 Gy Xl Xs Xt
/-- a class of errors with two fields: raised -/
structure Rz2 (P : Program) (w : World) (K : PySem.W.Frag) (mg : Str → Option Value) (base : Heap) (nm f1 f2 : Str) (C : Addr) : Prop where
  gm : mg nm = some (.ref C)
  ty : PySem.W.typeIn K (.ref C) = some (.type "type")
  ex : ∃ (fI : Addr) (fd : FuncData), XIn K C fI ∧ FnOk P w K mg base CX0 1 fI fd ["self", f1, f2] (spI2 C f1 f2) ∧ XB K fd ["self", f1, f2] [] (fun us _ => us) (fun vs _ => vs)
/-- what is wanted where C(v1, v2) is raised -/
def Ro2 (E : XK) (C : Addr) (f1 f2 : Str) (v1 v2 : V) (H : Hp) : Prop := ∀ H' dx, Same H H' → H' dx = some (.xd [(f2, v2), (f1, v1)]) → E (.ref C) (some dx) H'
theorem Ro2.same {E : XK} {C : Addr} {f1 f2 : Str} {v1 v2 : V} {H H1 : Hp} (h : Ro2 E C f1 f2 v1 v2 H) (s : Same H H1) : Ro2 E C f1 f2 v1 v2 H1 := fun H' dx s1 e => h H' dx (s.trans s1) e
/-- xs[i](e, ..): one of several defs -/
def tCallIx (S : Addr → Option Sp) (tf : TE) (t : TA) : TE := fun σ H Q => tf σ H fun v H1 => ∃ f sp, v = .ref f ∧ S f = some sp ∧ t σ H1 fun vs H2 => sp vs H2 Q (fun _ _ _ => False)
theorem pe_callIx {X : Cx} {k : Nat} {S : Addr → Option Sp} {a b e : Expr} {es : List Expr} {tf : TE} {t : TA} {p pos : Pos} (A : ∀ f sp, S f = some sp → Held X.prog X.w X.K X.mg X.base k f sp) (hr : Room k X.A) (hf : PE X (.Subscript a b p) tf) (ha : PA X (e :: es) t)
    (he : starEach (e :: es) X.env = (false, eval e X.env) :: starEach es X.env := by rfl) (hpl : (backTo pos (starEach es X.env)).any (·.1) = false := by rfl) : PE X (.Call (.Subscript a b p) (e :: es) [] pos) (tCallIx S tf t) := by
  refine ⟨fun pins s σ H Q I h => ?_⟩
  rw [show eval (.Call (.Subscript a b p) (e :: es) [] pos) X.env = (do callWith pos (← eval (.Subscript a b p) X.env) [] (backTo pos (starEach (e :: es) X.env)) (backToKw pos (keywordEach [] X.env))) from rfl]
  refine wpAny_bind (thn (hf.run pins s σ H _ I h) fun u s1 ⟨v, H1, I1, r1, f, sp, ev, hS, q1⟩ => ?_)
  subst ev
  cases r1
  obtain ⟨fd, ps, F, hk, hb⟩ := (A f sp hS).ex
  refine PySem.W.callWith_K (h₀ := X.base) I.ok.mod.kin hk (thn (ha.run pos pins s1 σ _ _ I1 q1) fun us s2 ⟨vs, H2, I2, r, q⟩ => ⟨I2.kIn, ?_⟩) he hpl
  have q' : sp (vs ++ []) H2 Q (fun _ _ _ => False) := by
    rw [List.append_nil]
    exact q
  exact run_fn F hr hb .nil (fun _ _ _ _ _ _ _ z => z.elim) I2 r q'
theorem Held.of {P : Program} {w : World} {K : PySem.W.Frag} {mg : Str → Option Value} {base : Heap} {k j : Nat} {f : Addr} {nm : Str} {ps : List Str} {sp : Sp} (F : Fk P w K mg base CX0 j nm ps sp) (h : j ≤ k) (m : mg nm = some (.ref f)) : Held P w K mg base k f sp := by
  obtain ⟨g, fd, m', kp, b, G⟩ := F.ex
  rw [m] at m'
  cases m'
  exact ⟨fd, ps, G.mono h, kp, b⟩
/-- f(e, ..) in a try -/
theorem pe_callSF {X : Cx} {CX : CXT} {k : Nat} {ps : List Str} {sp : Sp} {E : L2.St → XK} {x : Str} {p pos : Pos} {e : Expr} {es : List Expr} {t : TA} (F : Fk X.prog X.w X.K X.mg X.base CX k x ps sp) (hr : Room k X.A) (hg : Gl X x) (hx : ∀ σ, PassesAt CX X σ (E σ)) (ha : PA X (e :: es) t)
    (hdb : (x == ("__debug__" : Str)) = false := by decide) (he : starEach (e :: es) X.env = (false, eval e X.env) :: starEach es X.env := by rfl)
    (hpl : (backTo pos (starEach es X.env)).any (·.1) = false := by rfl) : PE X (.Call (.Name x p) (e :: es) [] pos) (tCallSD sp [] E t) := by
  obtain ⟨f, fd, m, kp, b, G⟩ := F.ex
  exact pe_callSD G hr hg m kp b .nil hx ha hdb he hpl
/-- what is known of a class of errors that is caught -/
structure Xc (K : PySem.W.Frag) (C R : Addr) : Prop where
  x : XCl K C
  em : PySem.W.exmOne K (.ref C) (.ref C) = some true
  ki : PySem.W.kitOne K (.ref C) (.ref R) = some true
theorem Xc.xf {K : PySem.W.Frag} {C R : Addr} (h : Xc K C R) : XfC K C := ⟨h.x.ga, h.x.gg, h.x.ex, h.x.hd⟩
/-- the class of an object, as the built-in isinstance asks for it -/
structure Cg (K : PySem.W.Frag) : Prop where
  cg : PySem.W.specialIn K (.builtin "object.__class__") "__get__" = some (some (.builtin "getset_descriptor.__get__"))
  ct : PySem.W.takesIn K (.builtin "object.__class__") = some true
end My

namespace My
open PySem PySem.Spec PyProof.Rows L2 Gy Xl Xs Xt
/-! ### how a host forwards -/
def fresh (xs : List Str) : Option Str → Bool
  | none => true
  | some s => !inV (.str s) (xs.map V.str)
def endB (o m : Bool) : V := if (o && !m) = true then .non else .int 0
def fwd (xs : List Str) (c j : Nat) (ph : Str) (src : Option Str) (g : Str) (b : Int) : V :=
  if (!decide (V.str ph = V.str "turned")) = true then .int 0
  else if decide (V.int (j : Int) = V.int 0) = true then endB (decide (V.str g = V.str (fromEnd xs 1))) (fresh xs src || (decide (optV src = V.str (xs.getD 1 "")) && decide (V.int b = V.int 1)))
  else if decide (V.int (j : Int) = V.int ((xs.length : Int) - 1)) = true then endB (decide (V.str g = V.str (xs.getD 0 ""))) (fresh xs src || (decide (optV src = V.str (fromEnd xs 2)) && decide (V.int b = V.int 1)))
  else if (!decide (V.str g = V.str (if decide ((j : Int) ≤ (c : Int)) = true then xs.getD (j - 1) "" else xs.getD (j + 1) ""))) = true then .int 0
  else if fresh xs src = true then .int 1 else .int b
section
variable {P : Program} {w : World} {K : PySem.W.Frag} {mg : Str → Option Value} {base : Heap} {H : Hp}
def spEnd : Sp := fun vs H Q _ => ∃ o m : Bool, vs = [.bl o, .bl m] ∧ Q (endB o m) H
theorem ok_end {f : Addr} {fd : FuncData} (F : Fun K "end_bit" "end_bit" s_end_bit f fd) : FnOk P w K mg base CX0 1 f fd ["is_over_new_link", "may_cross"] spEnd := by
  refine F.ok sc_end_bit (fun vs H Q E h => ?_) (fun cdv A outer s H vs Q E hr h => ?_)
  · obtain ⟨o, m, rfl, _⟩ := h
    rfl
  · obtain ⟨o, m, rfl, q⟩ := h
    refine ⟨_, (pss_one (ps_ret (pe_ifExp (PW.pt (pw_and (pt_val (pv 0)) (pw_and1 (pt_not (pt_val (pv 1)))))) pe_non pe_int))), ?_⟩
    refine ⟨_, rfl, o, rfl, ?_⟩
    cases o with
    | false => exact iteF (iteF q)
    | true =>
      refine iteT ⟨_, rfl, m, rfl, ?_⟩
      cases m with
      | false => exact iteT q
      | true => exact iteF q
/-- a query of a relink and a host, with what more is asked -/
def spFwd (K : PySem.W.Frag) (C U : Addr) : Sp := fun vs H Q E => ∃ (v h : V) (d e : PyData) (ph g : Str) (src : Option Str) (b : Int), vs = [v, h, .str ph, optV src, .str g, .int b] ∧ Dn K H v d ∧ sml d = true ∧ Dn K H h e ∧ sml e = true ∧
  (isRel d = false → Ro E C "value" v H) ∧
  ∀ xs c, d = reld xs c → isRel d = true → (∀ j, posn xs e = some j → ∀ H', Same H H' → Q (fwd xs c j ph src g b) H') ∧ (posn xs e = none → Ro E U "host" h H)
theorem ok_fwd {f C U : Addr} {fd : FuncData} (F : Fun K "forward_bit" "forward_bit" s_forward_bit f fd) (Y : Bn mg) (G_position : Fk P w K mg base (L2.CX P w) 6 "position" ["relink", "host"] (spQh K C U fun j _ => .int (j : Int)))
    (G_end_bit : Fk P w K mg base CX0 1 "end_bit" ["is_over_new_link", "may_cross"] spEnd) : FnOk P w K mg base (L2.CX P w) 7 f fd ["relink", "host", "phase", "source", "goal", "bit"] (spFwd K C U) := by
  refine F.okX sc_forward_bit (fun vs H Q E h => ?_) (fun cdv A outer s H vs Q E hr h => ?_)
  · obtain ⟨v, h, d, e, ph, g, src, b, rfl, _⟩ := h
    rfl
  · obtain ⟨v, h, d, e, ph, g, src, b, rfl, dn, sm, dh, sh, q2, q1⟩ := h
    refine ⟨_, (pss_cons (ps_set (i := 6) sc_forward_bit.nd rfl (.inl rfl) (pe_callF G_position (hr.mono (by decide)) (by rfl) (passes_call (E := E) (takes_of rfl rfl rfl rfl) (fun _ _ _ _ h => h)) (pa_cons (pv 0) (pa_cons (pv 1) pa_nil))))
 (pss_cons (ps_if (pt_cmpR op_ne (pv 2) pe_str (nomark _))
 (pss_one (ps_ret pe_int))
 pss_nil)
 (pss_cons (ps_asg (pv 0) (pg_tup (by rfl) (pgs_cons (pg_name (i := 7) sc_forward_bit.nd rfl (Or.inl rfl)) (pgs_cons (pg_name (i := 8) sc_forward_bit.nd rfl (Or.inl rfl)) pgs_nil))))
 (pss_cons (ps_set (i := 9) sc_forward_bit.nd rfl (.inl rfl) (pe_or (pe_cmpR op_isN (pv 3) pe_non (nomark _)) (pe_one (pe_cmpR op_notIn_seq (pv 3) (pv 7) rfl))))
 (pss_cons (ps_if (pt_cmpR op_eq (pv 6) pe_int (nomark _))
 (pss_one (ps_ret (pe_callF G_end_bit (hr.mono (by decide)) (by rfl) pass0 (pa_cons (pe_cmpR op_eq (pv 4) (pe_ix ix_tup (pv 7) (pe_un un_neg pe_int) (fun _ _ => rfl)) (nomark _)) (pa_cons (pe_or (pv 9) (pe_one (pe_and (pe_cmpR op_eq (pv 3) (pe_ix ix_tup (pv 7) pe_int (fun _ _ => rfl)) (nomark _)) (pe_one (pe_cmpR op_eq (pv 5) pe_int (nomark _)))))) pa_nil)))))
 pss_nil)
 (pss_cons (ps_if (pt_cmpR op_eq (pv 6) (pe_op op_sub (pe_callB call_len_seq (by rfl) Y.len PySem.boot_len (pa_cons (pv 7) pa_nil)) pe_int) (nomark _))
 (pss_one (ps_ret (pe_callF G_end_bit (hr.mono (by decide)) (by rfl) pass0 (pa_cons (pe_cmpR op_eq (pv 4) (pe_ix ix_tup (pv 7) pe_int (fun _ _ => rfl)) (nomark _)) (pa_cons (pe_or (pv 9) (pe_one (pe_and (pe_cmpR op_eq (pv 3) (pe_ix ix_tup (pv 7) (pe_un un_neg pe_int) (fun _ _ => rfl)) (nomark _)) (pe_one (pe_cmpR op_eq (pv 5) pe_int (nomark _)))))) pa_nil)))))
 pss_nil)
 (pss_cons (ps_set (i := 10) sc_forward_bit.nd rfl (.inl rfl) (pe_ifExp (pt_cmpR op_le (pv 6) (pv 8) (nomark _)) (pe_ix ix_tup (pv 7) (pe_op op_sub (pv 6) pe_int) (fun _ _ => rfl)) (pe_ix ix_tup (pv 7) (pe_op op_add (pv 6) pe_int) (fun _ _ => rfl))))
 (pss_cons (ps_if (pt_cmpR op_ne (pv 4) (pv 10) (nomark _))
 (pss_one (ps_ret pe_int))
 pss_nil)
 (pss_one (ps_ret (pe_ifExp (pt_val (pv 9)) pe_int (pv 5)))))))))))), ?_⟩
    refine ⟨_, rfl, _, rfl, v, h, d, e, rfl, dn, sm, dh, sh, q2, fun xs c ed ir => ?_⟩
    obtain ⟨q3, q4⟩ := q1 xs c ed ir
    refine ⟨fun j hj H1 s1 => ?_, q4⟩
    obtain ⟨xs', c', ed', l3, nd, cl, ah⟩ := rel_parts ir
    obtain ⟨rfl, rfl⟩ : xs' = xs ∧ c' = c := by
      rw [ed] at ed'
      obtain ⟨e1, e2⟩ := reld_inj ed'
      exact ⟨e1.symm, e2.symm⟩
    subst ed
    obtain ⟨ra, rb, rfl, ha, hb⟩ := rel_heap dn
    have ha1 := ha.same s1
    have hb1 := hb.same s1
    have jl := posn_lt hj
    have q := q3 j hj H1 s1
    unfold fwd at q
    clear q1 q2 q3 q4
    refine ⟨_, rfl, rfl, _, rfl, ite2 (fun c1 => ?_) (fun c1 => ?_)⟩
    · rw [if_pos c1] at q
      exact q
    rw [if_neg c1] at q
    refine ⟨_, rfl, ra, _, rfl, ha1.sq, rfl, _, _, rfl, _, _, rfl, rfl, ?_⟩
    refine ⟨_, rfl, rfl, _, rfl, ?_⟩
    cases hsrc : src
    case' none =>
      refine iteT ?_
    case' some s =>
      refine iteF ?_
      refine ⟨_, rfl, _, rfl, rb, _, rfl, .inr hb1.sq, rfl, flat_strs _, ?_⟩
    all_goals
      refine ⟨_, rfl, rfl, _, rfl, ite2 (fun c2 => ?_) (fun c2 => ?_)⟩
      · rw [if_pos c2] at q
        refine ⟨_, rfl, _, rfl, 1, rfl, rb, _, -1, _, rfl, rfl, hb1.sq, at_end (by omega), rfl, ?_⟩
        refine ⟨_, rfl, _, rfl, ite2 (fun c3 => ?_) (fun c3 => ?_)⟩
        · have c3' : fresh xs' src = true := by rw [hsrc]; exact c3
          rw [c3', Bool.true_or] at q
          exact ⟨_, _, rfl, q⟩
        · have c3' : fresh xs' src = false := by rw [hsrc]; exact Bool.eq_false_iff.mpr c3
          rw [c3', Bool.false_or, hsrc] at q
          refine ⟨_, rfl, _, rfl, rb, _, 1, _, rfl, rfl, hb1.sq, at_nat (i := 1) (by omega), rfl, _, rfl, ite2 (fun c4 => ?_) (fun c4 => ?_)⟩
          · rw [c4, Bool.true_and] at q
            exact ⟨_, rfl, rfl, _, _, rfl, q⟩
          · rw [Bool.eq_false_iff.mpr c4, Bool.false_and] at q
            exact ⟨_, _, rfl, q⟩
      rw [if_neg c2] at q
      refine ⟨_, rfl, _, rfl, rb, _, rfl, .inr hb1.sq, _, _, rfl, rfl, rfl, _, rfl, ?_⟩
      rw [List.length_map]
      refine ite2 (fun c3 => ?_) (fun c3 => ?_)
      · rw [if_pos c3] at q
        refine ⟨_, rfl, _, rfl, rb, _, 0, _, rfl, rfl, hb1.sq, at_nat (i := 0) (by omega), rfl, ?_⟩
        refine ⟨_, rfl, _, rfl, ite2 (fun c3 => ?_) (fun c3 => ?_)⟩
        · have c3' : fresh xs' src = true := by rw [hsrc]; exact c3
          rw [c3', Bool.true_or] at q
          exact ⟨_, _, rfl, q⟩
        · have c3' : fresh xs' src = false := by rw [hsrc]; exact Bool.eq_false_iff.mpr c3
          rw [c3', Bool.false_or, hsrc] at q
          refine ⟨_, rfl, _, rfl, 2, rfl, rb, _, -2, _, rfl, rfl, hb1.sq, at_end2 (by omega), rfl, _, rfl, ite2 (fun c4 => ?_) (fun c4 => ?_)⟩
          · rw [c4, Bool.true_and] at q
            exact ⟨_, rfl, rfl, _, _, rfl, q⟩
          · rw [Bool.eq_false_iff.mpr c4, Bool.false_and] at q
            exact ⟨_, _, rfl, q⟩
      rw [if_neg c3] at q
      have j0 : j ≠ 0 := fun z => c2 (decide_eq_true (by rw [z]; rfl))
      have j1 : j + 1 < xs'.length := by
        have : ¬ (j : Int) = (xs'.length : Int) - 1 := fun z => c3 (decide_eq_true (by show V.int (j : Int) = V.int ((xs'.length : Int) - 1); rw [z]))
        omega
      refine ⟨_, rfl, _, rfl, _, _, rfl, rfl, _, rfl, ite2 (fun c4 => ?_) (fun c4 => ?_)⟩
      · rw [if_pos c4] at q
        refine ⟨_, rfl, _, rfl, _, _, rfl, rfl, rb, _, _, _, rfl, rfl, hb1.sq, (by rw [show (j : Int) - 1 = ((j - 1 : Nat) : Int) by omega]; exact at_nat (i := j - 1) (by omega)), ?_⟩
        refine ⟨_, rfl, _, rfl, rfl, _, rfl, ite2 (fun c5 => ?_) (fun c5 => ?_)⟩
        · rw [if_pos c5] at q
          exact q
        · rw [if_neg c5] at q
          refine ⟨_, rfl, _, rfl, ite2 (fun c6 => ?_) (fun c6 => ?_)⟩
          · have c6' : fresh xs' src = true := by rw [hsrc]; exact c6
            rw [if_pos c6'] at q
            exact q
          · have c6' : ¬ fresh xs' src = true := by rw [hsrc]; exact c6
            rw [if_neg c6'] at q
            exact ⟨_, rfl, q⟩
      · rw [if_neg c4] at q
        refine ⟨_, rfl, _, rfl, _, _, rfl, rfl, rb, _, _, _, rfl, rfl, hb1.sq, (by rw [show (j : Int) + 1 = ((j + 1 : Nat) : Int) by omega]; exact at_nat (i := j + 1) (by omega)), ?_⟩
        refine ⟨_, rfl, _, rfl, rfl, _, rfl, ite2 (fun c5 => ?_) (fun c5 => ?_)⟩
        · rw [if_pos c5] at q
          exact q
        · rw [if_neg c5] at q
          refine ⟨_, rfl, _, rfl, ite2 (fun c6 => ?_) (fun c6 => ?_)⟩
          · have c6' : fresh xs' src = true := by rw [hsrc]; exact c6
            rw [if_pos c6'] at q
            exact q
          · have c6' : ¬ fresh xs' src = true := by rw [hsrc]; exact c6
            rw [if_neg c6'] at q
            exact ⟨_, rfl, q⟩
end
end My

/-! Defs that are called with keywords. -/
namespace My
open PySem PySem.Spec PyProof.Rows L2 Gy Xl Xs Xt
/-- a def of the top: n values by position, keywords ks; gV puts them into the parameters' order -/
structure Fw (P : Program) (w : World) (K : PySem.W.Frag) (mg : Str → Option Value) (base : Heap) (CX : CXT) (k : Nat) (nm : Str) (ps : List Str) (n : Nat) (ks : List Str) (gV : List V → List V → List V) (sp : Sp) : Prop where
  ex : ∃ (f : Addr) (fd : FuncData) (g : List Value → List Value → List Value), mg nm = some (.ref f) ∧ PySem.W.keepIn K (.ref f) = true ∧ KBn K fd ps n ks g gV ∧ FnOk P w K mg base CX k f fd ps sp
section
variable {X : Cx} {CX : CXT} {k n : Nat} {ps ks : List Str} {sp : Sp} {E : XK} {x : Str} {p pos : Pos} {e : Expr} {es : List Expr} {kws : List Keyword} {t tk : TA} {gV : List V → List V → List V}
theorem pe_callNF (F : Fw X.prog X.w X.K X.mg X.base CX k x ps n ks gV sp) (hr : Room k X.A) (hg : Gl X x) (hx : Passes CX X E) (ha : PA X (e :: es) t) (hkw : PK X kws tk)
    (hall : (backToKw pos (keywordEach kws X.env)).all (·.1.isSome) = true := by rfl) (hks : (backToKw pos (keywordEach kws X.env)).filterMap (·.1) = ks := by rfl) (hdb : (x == ("__debug__" : Str)) = false := by decide)
    (he : starEach (e :: es) X.env = (false, eval e X.env) :: starEach es X.env := by rfl) (hpl : ((backTo pos (starEach (e :: es) X.env)).any (·.1) || (backToKw pos (keywordEach kws X.env)).any (·.1.isNone)) = false := by rfl) :
    PE X (.Call (.Name x p) (e :: es) kws pos) (tCallN n ks.length sp gV E t tk) := by
  obtain ⟨f, fd, g, m, kp, b, G⟩ := F.ex
  exact pe_callN G hr hg m kp b hx ha hkw hall hks hdb he hpl
/-- f(k = v, ..) -/
def tCall0 (m : Nat) (sp : Sp) (gV : List V → List V → List V) (E : XK) (tk : TA) : TE := fun σ H Q => tk σ H fun zs H2 => zs.length = m ∧ sp (gV [] zs) H2 Q E
theorem pe_call0F (F : Fw X.prog X.w X.K X.mg X.base CX k x ps 0 ks gV sp) (hr : Room k X.A) (hg : Gl X x) (hx : Passes CX X E) (hkw : PK X kws tk)
    (hall : (backToKw pos (keywordEach kws X.env)).all (·.1.isSome) = true := by rfl) (hks : (backToKw pos (keywordEach kws X.env)).filterMap (·.1) = ks := by rfl) (hdb : (x == ("__debug__" : Str)) = false := by decide)
    (hpl : ((backTo pos (starEach [] X.env)).any (·.1) || (backToKw pos (keywordEach kws X.env)).any (·.1.isNone)) = false := by rfl) :
    PE X (.Call (.Name x p) [] kws pos) (tCall0 ks.length sp gV E tk) := by
  obtain ⟨f, fd, g, m, kp, b, G⟩ := F.ex
  constructor
  intro pins s σ H Q I h
  refine wpAny_Call_Name_kw (ld_glob I hg m ?_ hdb)
  refine PySem.W.callWith_KW0 (h₀ := X.base) I.ok.mod.kin kp hall (thn (hkw.run pos pins s σ H _ I h) ?_) hpl
  rintro ws s2 ⟨zs, H2, I2, rz, l2, q2⟩
  rw [hks]
  exact ⟨I2.kIn, run_fnN (us := []) G hr b hx I2 .nil rz rfl l2 q2⟩
end
theorem vals_back : ∀ {xs : List V} {us : List Value}, Vals xs us → Vals xs.reverse us.reverse
  | _, _, .nil => .nil
  | _, _, .cons h t => by
    rw [List.reverse_cons, List.reverse_cons]
    exact (vals_back t).append (.cons h .nil)
/-- the keywords in the parameters' order, or turned about -/
theorem kbn_fwd {K : PySem.W.Frag} {x qual : Str} {st : Stmt} {f : Addr} {fd : FuncData} {ps ks : List Str} {n : Nat} (F : Fun K x qual st f fd)
    (h : ∀ (kV doc pm : Value) (an : Option Addr) (cdv ct : Value) (us ws : List Value), us.length = n → ws.length = ks.length → bindArgs (PySem.W.fnOf x qual (defArgs st) (defBody st) (defScope st) .none kV doc pm an cdv ct) ⟨us, ks.zip ws⟩ = pure (ps.zip (us ++ ws))) :
    KBn K fd ps n ks (fun us ws => us ++ ws) (fun vs zs => vs ++ zs) := by
  obtain ⟨oc, od, kV, doc, pm, an, cdv, ct, osl, rfl, lk, hcd⟩ := F.ex
  exact ⟨fun s us ws _ h1 h2 => .of_eq (h kV doc pm an cdv ct us ws h1 h2), fun r z => r.append z⟩
theorem kbn_back {K : PySem.W.Frag} {x qual : Str} {st : Stmt} {f : Addr} {fd : FuncData} {ps ks : List Str} {n : Nat} (F : Fun K x qual st f fd)
    (h : ∀ (kV doc pm : Value) (an : Option Addr) (cdv ct : Value) (us ws : List Value), us.length = n → ws.length = ks.length → bindArgs (PySem.W.fnOf x qual (defArgs st) (defBody st) (defScope st) .none kV doc pm an cdv ct) ⟨us, ks.zip ws⟩ = pure (ps.zip (us ++ ws.reverse))) :
    KBn K fd ps n ks (fun us ws => us ++ ws.reverse) (fun vs zs => vs ++ zs.reverse) := by
  obtain ⟨oc, od, kV, doc, pm, an, cdv, ct, osl, rfl, lk, hcd⟩ := F.ex
  exact ⟨fun s us ws _ h1 h2 => .of_eq (h kV doc pm an cdv ct us ws h1 h2), fun r z => r.append (vals_back z)⟩
end My

namespace My
open PySem PySem.Spec PyProof.Rows L2 Gy Xl Xs Xt
/-! ### forwards -/
/-- pairs of a text and a whole number stand at ts -/
def PrI (H : Hp) : List Addr → List (Str × Int) → Prop
  | [], [] => True
  | t :: ts, p :: ps => Tz H t [.str p.1, .int p.2] ∧ PrI H ts ps
  | _, _ => False
theorem PrI.same {H H' : Hp} (s : Same H H') : ∀ {ts : List Addr} {ps : List (Str × Int)}, PrI H ts ps → PrI H' ts ps
  | [], [], _ => trivial
  | _ :: _, _ :: _, h => ⟨h.1.same s, PrI.same s h.2⟩
theorem PrI.snoc_upd {H : Hp} {D t : Addr} {l : List V} {o : HO} {p : Str × Int} (hD : H D = some (.lst l)) (tz : Tz H t [.str p.1, .int p.2]) : ∀ {ts : List Addr} {ps : List (Str × Int)}, PrI H ts ps → PrI (upd H D o) (ts ++ [t]) (ps ++ [p])
  | [], [], _ => ⟨tz.updL hD, trivial⟩
  | _ :: _, _ :: _, h => ⟨h.1.updL hD, PrI.snoc_upd hD tz h.2⟩
theorem PrI.len {H : Hp} : ∀ {ts : List Addr} {ps : List (Str × Int)}, PrI H ts ps → ts.length = ps.length
  | [], [], _ => rfl
  | _ :: _, _ :: _, h => by rw [List.length_cons, List.length_cons, PrI.len h.2]
/-- a list of such pairs stands at L -/
def Lp (H : Hp) (L : Addr) (ps : List (Str × Int)) : Prop := ∃ ts, H L = some (.lst (ts.map V.ref)) ∧ PrI H ts ps
theorem Lp.same {H H' : Hp} {L : Addr} {ps : List (Str × Int)} (h : Lp H L ps) (s : Same H H') : Lp H' L ps := by
  obtain ⟨ts, h1, h2⟩ := h
  exact ⟨ts, s _ _ h1, h2.same s⟩
/-- the goals of a message -/
def gls (src : Option Str) (ys : List Str) : List Str := ys.filter fun y => !decide (V.str y = optV src)
/-- is not None -/
def rNotN : R2 := fun x y H Q => y = .non ∧ Q (.bl (!decide (x = .non))) H
def sentTo (f : Str → V) (g : Str) : Option (Str × Int) := match f g with
  | .int n => some (g, n)
  | _ => none
def sents (f : Str → V) (gs : List Str) : List (Str × Int) := gs.filterMap (sentTo f)
theorem fwd_opt (xs : List Str) (c j : Nat) (ph : Str) (src : Option Str) (g : Str) (b : Int) : fwd xs c j ph src g b = .non ∨ ∃ n, fwd xs c j ph src g b = .int n := by
  unfold fwd endB
  repeat' split
  all_goals first
    | exact .inl rfl
    | exact .inr ⟨_, rfl⟩
section
variable {P : Program} {w : World} {K : PySem.W.Frag} {mg : Str → Option Value} {base : Heap} {H : Hp}
def isNo : PyData → Bool
  | .none => true
  | _ => false
theorem isNo_eq {d : PyData} : isNo d = true ↔ d = .none := by
  cases d <;> simp [isNo]
theorem non_iff {v : V} {d : PyData} (h : Dn K H v d) : decide (v = .non) = isNo d := by
  cases h <;> rfl
def spForw (K : PySem.W.Frag) (C U : Addr) : Sp := fun vs H Q E => ∃ (la : Addr) (ls : List Str) (src : Option Str) (b : Int) (v h : V) (d e : PyData) (ph : Str), vs = [.ref la, optV src, .int b, v, h, .str ph] ∧ H la = some (.lst (ls.map V.str)) ∧ ls.length ≤ 20 ∧
  Dn K H v d ∧ sml d = true ∧ Dn K H h e ∧ sml e = true ∧
  (d = .none → ∀ ys H' L, ys.Perm ls → sortedS ys = true → Same H H' → H L = none → Lp H' L ((gls src ys).map fun g => (g, 0)) → Q (.ref L) H') ∧
  (d ≠ .none → isRel d = false → Ro E C "value" v H) ∧
  ∀ xs c, d = reld xs c → isRel d = true → (posn xs e = none → Ro E U "host" h H) ∧ ∀ j, posn xs e = some j → ∀ ys H' L, ys.Perm ls → sortedS ys = true → Same H H' → H L = none → Lp H' L (sents (fun g => fwd xs c j ph src g b) (gls src ys)) → Q (.ref L) H'
theorem ok_forw {f C U : Addr} {fd : FuncData} (F : Fun K "forwards" "forwards" s_forwards f fd) (Y : Bn mg) (G_position : Fk P w K mg base (L2.CX P w) 6 "position" ["relink", "host"] (spQh K C U fun j _ => .int (j : Int)))
    (G_forward_bit : Fk P w K mg base (L2.CX P w) 7 "forward_bit" ["relink", "host", "phase", "source", "goal", "bit"] (spFwd K C U)) : FnOk P w K mg base (L2.CX P w) 8 f fd ["links", "source", "bit", "relink", "host", "phase"] (spForw K C U) := by
  refine F.okX sc_forwards (fun vs H Q E h => ?_) (fun cdv A outer s H vs Q E hr h => ?_)
  · obtain ⟨la, ls, src, b, v, h, d, e, ph, rfl, _⟩ := h
    rfl
  · obtain ⟨la, ls, src, b, v, h, d, e, ph, rfl, hl, l20, dn, sm, dh, sh, q0, q1, q2⟩ := h
    refine ⟨_, (pss_cons (ps_setLc (i := 6) (own := [("goal", 8)]) (g := gName 8) (tt := tTest (tOp rNe (tVar 8) (tVar 1))) rfl sc_forwards.nd rfl rfl (sw_true rfl rfl rfl (by decide +kernel)) (pi_list (pe_callB cr_sortedS (by rfl) Y.sorted (by decide +kernel) (pa_cons (pv 0) pa_nil))) (blkOk_by (N := ["links", "source", "bit", "relink", "host", "phase", "goals", "bits", "goal", "sent"]) (sc := defScope s_forwards) (by decide +kernel)) (fun _ _ _ _ _ => (pg_name (i := 8) sc_forwards.nd rfl (Or.inl rfl))) (fun _ _ _ _ _ => (pts_one (pt_cmpR op_ne (pv 8) (pv 1) (nomark _)))) (fun _ _ _ _ _ => (pv 8)))
 (pss_cons (ps_if (pt_cmpR op_isN (pv 3) pe_non (nomark _))
 (pss_one (ps_ret (pe_lc (own := [("goal", 8)]) (g := gName 8) (tt := tYes) rfl sc_forwards.nd (pi_list (pv 6)) (blkOk_by (N := ["links", "source", "bit", "relink", "host", "phase", "goals", "bits", "goal", "sent"]) (sc := defScope s_forwards) (by decide +kernel)) (fun _ _ _ _ _ => (pg_name (i := 8) sc_forwards.nd rfl (Or.inl rfl))) (fun _ _ _ _ _ => pts_nil) (fun _ _ _ _ _ => (pe_tupZ (pa_cons (pv 8) (pa_cons pe_int pa_nil)))))))
 pss_nil)
 (pss_cons (ps_expr (pe_callF G_position (hr.mono (by decide)) (by rfl) (passes_call (E := E) (takes_of rfl rfl rfl rfl) (fun _ _ _ _ h => h)) (pa_cons (pv 3) (pa_cons (pv 4) pa_nil))))
 (pss_cons (ps_setLc (i := 7) (own := [("goal", 8)]) (g := gName 8) (tt := tYes) rfl sc_forwards.nd rfl rfl (sw_true rfl rfl rfl (by decide +kernel)) (pi_list (pv 6)) (blkOk_by (N := ["links", "source", "bit", "relink", "host", "phase", "goals", "bits", "goal", "sent"]) (sc := defScope s_forwards) (by decide +kernel)) (fun _ _ _ _ _ => (pg_name (i := 8) sc_forwards.nd rfl (Or.inl rfl))) (fun _ _ _ _ _ => pts_nil) (fun _ _ _ _ _ => (pe_callF G_forward_bit (hr.mono (by decide)) (by rfl) passN (pa_cons (pv 3) (pa_cons (pv 4) (pa_cons (pv 5) (pa_cons (pv 1) (pa_cons (pv 8) (pa_cons (pv 2) pa_nil)))))))))
 (pss_one (ps_ret (pe_lc (own := [("goal", 8), ("sent", 9)]) (g := gTup K 2 (gCons (gName 8) (gCons (gName 9) gNil))) (tt := tTest (tOp rNotN (tVar 9) (tC .non))) rfl sc_forwards.nd (pi_zip (by rfl) Y.zip (pa_cons (pv 6) (pa_cons (pv 7) pa_nil))) (blkOk_by (own := [("goal", 8), ("sent", 9)]) (N := ["links", "source", "bit", "relink", "host", "phase", "goals", "bits", "goal", "sent"]) (sc := defScope s_forwards) (by decide +kernel)) (fun _ _ _ _ _ => pg_tup (by rfl) (pgs_cons (pg_name (i := 8) sc_forwards.nd rfl (Or.inl rfl)) (pgs_cons (pg_name (i := 9) sc_forwards.nd rfl (Or.inl rfl)) pgs_nil))) (fun _ _ _ _ _ => pts_one (pt_cmpR (show OpR _ _ rNotN from op_notN) (pv 9) pe_non (nomark _))) (fun _ _ _ _ _ => pe_tupZ (pa_cons (pv 8) (pa_cons (pv 9) pa_nil)))))))))), ?_⟩
    refine ⟨_, rfl, la, ls, rfl, SqL.of hl, by omega, fun ys p perm srt np => ?_⟩
    have sp := same_upd (o := .lst (ys.map V.str)) np
    have hp : (upd H p (.lst (ys.map V.str))) p = _ := upd_same
    have yl : ys.length ≤ 20 := by rw [perm.length_eq]; exact l20
    generalize upd H p (.lst (ys.map V.str)) = H1 at sp hp ⊢
    refine ⟨p, rfl, ⟨_, SqL.of hp⟩, fun D nD => ?_⟩
    refine lc_it (walk_list (K := K) (a := p) (xs := ys.map V.str)) (fun i H' => Same H1 H' ∧ H' D = some (.lst (((ys.take i).filter (fun y => !decide (V.str y = optV src))).map V.str)))
      ⟨same_upd nD, upd_same⟩ (fun i H' _ h => SqL.of (h.1 _ _ hp)) ?_ ?_
    · rintro k y H8 H9 hk ⟨s8, hZ⟩ ⟨rfl, hy⟩
      rw [List.getElem?_map] at hy
      obtain ⟨z, hz, rfl⟩ := Option.map_eq_some_iff.mp hy
      refine ⟨rfl, ?_⟩
      refine ⟨_, rfl, _, rfl, scal_opt z src, _, rfl, ite2 (fun c8 => ?_) (fun c8 => ?_)⟩
      · refine ⟨_, rfl, _, hZ, ?_, same_upd2 s8 nD, ?_⟩
        · rw [List.length_map]
          have l1 := List.length_filter_le (fun y => !decide (V.str y = optV src)) (ys.take k)
          rw [List.length_take] at l1
          exact small200 (by omega)
        · rw [upd_same, List.take_add_one, hz, List.filter_append, List.map_append]
          show some (HO.lst _) = some (HO.lst (_ ++ (List.filter _ [z]).map V.str))
          rw [List.filter_cons_of_pos (by exact c8)]
          rfl
      · refine ⟨s8, ?_⟩
        rw [hZ, List.take_add_one, hz, List.filter_append]
        show some (HO.lst _) = some (HO.lst ((_ ++ List.filter _ [z]).map V.str))
        rw [List.filter_cons_of_neg (by exact c8), List.filter_nil, List.append_nil]
    rintro H2 ⟨s2, hZ⟩
    rw [List.length_map, List.take_of_length_le (Nat.le_refl _)] at hZ
    have hZ : H2 D = some (.lst ((gls src ys).map V.str)) := hZ
    have gl : (gls src ys).length ≤ 20 := Nat.le_trans (List.length_filter_le _ _) yl
    have s02 := sp.trans s2
    generalize hgs : gls src ys = gs at hZ gl
    refine ⟨_, rfl, rfl, _, rfl, ?_⟩
    rw [non_iff dn]
    refine ite2 (fun c1 => ?_) (fun c1 => ?_)
    · have c1' : d = .none := isNo_eq.mp c1
      refine ⟨_, rfl, D, rfl, ⟨_, SqL.of hZ⟩, fun D2 nD2 => ?_⟩
      refine lc_it (walk_list (K := K) (a := D) (xs := gs.map V.str)) (fun i H' => Same H2 H' ∧ ∃ ts : List Addr, H' D2 = some (.lst (ts.map V.ref)) ∧ ts.length = i ∧ PrI H' ts ((gs.take i).map fun g => (g, 0)))
        ⟨same_upd nD2, [], upd_same, rfl, trivial⟩ (fun i H' _ h => SqL.of (h.1 _ _ hZ)) ?_ ?_
      · rintro k y H3 H4 hk ⟨s3, ts, hD, tl, pr⟩ ⟨rfl, hy⟩
        rw [List.getElem?_map] at hy
        obtain ⟨z, hz, rfl⟩ := Option.map_eq_some_iff.mp hy
        refine ⟨rfl, ?_⟩
        dsimp only [tYes]
        refine iteT ?_
        refine ⟨_, rfl, (by show 2 ≤ sizeLine; decide), fun t o nt st tz => ?_⟩
        refine ⟨_, st _ _ hD, ?_, same_upd2 (s3.trans st) nD2, ts ++ [t], ?_, ?_, ?_⟩
        · rw [List.length_map, tl]
          rw [List.length_map] at hk
          exact small200 (by omega)
        · rw [upd_same, List.map_append]
          rfl
        · rw [List.length_append, tl]
          rfl
        · rw [List.take_add_one, hz, List.map_append]
          exact (pr.same st).snoc_upd (st _ _ hD) tz
      · rintro H3 ⟨s3, ts, hD, tl, pr⟩
        rw [List.length_map, List.take_of_length_le (Nat.le_refl _)] at pr
        exact q0 c1' ys H3 D2 perm srt (s02.trans s3) (by
          cases z : H D2 with
          | none => rfl
          | some o => rw [s02 _ _ z] at nD2; cases nD2) ⟨ts, hD, by rw [hgs]; exact pr⟩
    have c1' : d ≠ .none := fun z => c1 (isNo_eq.mpr z)
    refine ⟨_, rfl, _, rfl, v, h, d, e, rfl, dn.same s02, sm, dh.same s02, sh, fun z => (q1 c1' z).same s02, fun xs c ed ir => ?_⟩
    obtain ⟨q3, q4⟩ := q2 xs c ed ir
    refine ⟨fun j hj H3 s3 => ?_, fun z => (q3 z).same s02⟩
    have q5 := q4 j hj
    have s03 := s02.trans s3
    have dn3 := dn.same s03
    have dh3 := dh.same s03
    have hZ3 := s3 _ _ hZ
    obtain ⟨fw, hfw⟩ : ∃ fw : Str → V, fw = fun g => fwd xs c j ph src g b := ⟨_, rfl⟩
    refine ⟨_, rfl, D, rfl, ⟨_, SqL.of hZ3⟩, fun D2 nD2 => ?_⟩
    refine lc_it (walk_list (K := K) (a := D) (xs := gs.map V.str)) (fun i H' => Same H3 H' ∧ H' D2 = some (.lst ((gs.take i).map fw)))
      ⟨same_upd nD2, upd_same⟩ (fun i H' _ h => SqL.of (h.1 _ _ hZ3)) ?_ ?_
    · rintro k y H4 H5 hk ⟨s4, hB⟩ ⟨rfl, hy⟩
      rw [List.getElem?_map] at hy
      obtain ⟨z, hz, rfl⟩ := Option.map_eq_some_iff.mp hy
      refine ⟨rfl, ?_⟩
      dsimp only [tYes]
      refine iteT ?_
      refine ⟨_, rfl, _, rfl, _, rfl, _, rfl, _, rfl, _, rfl, v, h, d, e, ph, z, src, b, rfl, dn3.same s4, sm, dh3.same s4, sh, fun w => ?_, fun xs' c' ed' _ => ?_⟩
      · rw [ir] at w
        cases w
      · obtain ⟨rfl, rfl⟩ := reld_inj (ed.symm.trans ed')
        refine ⟨fun j' hj' H6 s6 => ?_, fun w => ?_⟩
        · rw [hj] at hj'
          injection hj' with hj'
          subst hj'
          refine ⟨_, s6 _ _ hB, ?_, same_upd2 (s4.trans s6) nD2, ?_⟩
          · rw [List.length_map, List.length_take]
            exact small200 (by omega)
          · rw [upd_same, List.take_add_one, hz, List.map_append, hfw]
            rfl
        · rw [hj] at w
          cases w
    rintro H4 ⟨s4, hB⟩
    rw [List.length_map, List.take_of_length_le (Nat.le_refl _)] at hB
    have s04 := s03.trans s4
    have hZ4 := s4 _ _ hZ3
    refine ⟨_, rfl, _, rfl, D, D2, _, _, rfl, SqL.of hZ4, SqL.of hB, fun D3 nD3 => ?_⟩
    refine lc_it (walk_zip (K := K) (a := D) (b := D2) (xs := gs.map V.str) (ys := gs.map fw) (n := gs.length) (by rw [List.length_map, List.length_map, Nat.min_self])) (fun i H' => Same H4 H' ∧ ∃ ts : List Addr, H' D3 = some (.lst (ts.map V.ref)) ∧ ts.length ≤ i ∧ PrI H' ts (sents fw (gs.take i)))
      ⟨same_upd nD3, [], upd_same, Nat.le_refl _, trivial⟩ (fun i H' _ h => ⟨SqL.of (h.1 _ _ hZ4), SqL.of (h.1 _ _ hB)⟩) ?_ ?_
    · rintro k y H5 H6 hk ⟨s5, ts, hD, tl, pr⟩ ⟨T, x, z, rfl, nT, rfl, e1, e2⟩
      have gk := List.getElem?_eq_getElem hk
      have e1 : (gs.map V.str)[k]? = some x := e1
      have e2 : (gs.map fw)[k]? = some z := e2
      rw [List.getElem?_map, gk] at e1 e2
      injection e1 with e1
      injection e2 with e2
      subst e1 e2
      refine ⟨T, _, rfl, SqT.of upd_same, rfl, _, _, rfl, _, _, rfl, rfl, rfl, ?_⟩
      have sT := same_upd (o := .tup [.str gs[k], fw gs[k]]) nT
      have hD6 := sT _ _ hD
      have pr6 := pr.same sT
      have s6 := s5.trans sT
      have tk : sents fw (gs.take (k + 1)) = sents fw (gs.take k) ++ (sentTo fw gs[k]).toList := by
        unfold sents
        rw [List.take_add_one, gk, List.filterMap_append]
        congr 1
      refine ⟨_, rfl, rfl, _, rfl, ?_⟩
      have fo : fw gs[k] = .non ∨ ∃ n, fw gs[k] = .int n := by rw [hfw]; exact fwd_opt ..
      rcases fo with fo | ⟨n, fo⟩
      · have w : sentTo fw gs[k] = none := by
          unfold sentTo
          rw [fo]
        refine ite2 (fun c => ?_) (fun c => ?_)
        · have c' : (!decide (fw gs[k] = .non)) = true := c
          rw [decide_eq_true fo] at c'
          cases c'
        · refine ⟨s6, ts, hD6, by omega, ?_⟩
          rw [tk, w]
          show PrI _ ts (_ ++ [])
          rw [List.append_nil]
          exact pr6
      · have w : sentTo fw gs[k] = some (gs[k], n) := by
          unfold sentTo
          rw [fo]
        refine ite2 (fun c => ?_) (fun c => ?_)
        · refine ⟨_, rfl, _, rfl, (by show 2 ≤ sizeLine; decide), fun t o nt st tz => ?_⟩
          have tz : Tz (upd (upd H5 T (.tup [.str gs[k], fw gs[k]])) t o) t [.str gs[k], .int n] := by
            rw [← fo]
            exact tz
          refine ⟨_, st _ _ hD6, ?_, same_upd2 (s6.trans st) nD3, ts ++ [t], ?_, ?_, ?_⟩
          · rw [List.length_map]
            exact small200 (by omega)
          · rw [upd_same, List.map_append]
            rfl
          · rw [List.length_append]
            exact Nat.succ_le_succ tl
          · rw [tk, w]
            exact (pr6.same st).snoc_upd (st _ _ hD6) tz
        · have c' : ¬ (!decide (fw gs[k] = .non)) = true := c
          rw [fo] at c'
          exact absurd (by simp) c'
    · rintro H5 ⟨s5, ts, hD, tl, pr⟩
      rw [List.take_of_length_le (Nat.le_refl _)] at pr
      refine q5 ys H5 D3 perm srt (s04.trans s5) (by
          cases z : H D3 with
          | none => rfl
          | some o => rw [s04 _ _ z] at nD3; cases nD3) ⟨ts, hD, ?_⟩
      rw [hgs, ← hfw]
      exact pr
end
end My

namespace My
open PySem PySem.Spec PyProof.Rows L2 Gy Xl Xs Xt
/-! ### control items: their kinds, which of them a host receives, the step -/
def KINDS : List Str := ["ask", "no", "yes", "go", "back"]
def isKind : PyData → Bool
  | .str x => decide (x ∈ KINDS)
  | _ => false
/-- the written tuple of the kinds -/
def KindsAt (o : Obj) : Prop := ∃ (its : Array Value) (n : Nat), o.cls = .type "tuple" ∧ o.data = .seq its n ∧ its.size ≤ sizeLine ∧ Vals (KINDS.map V.str) its.toList
structure TxtK (K : PySem.W.Frag) (mg : Str → Option Value) : Prop where
  ex : ∃ (a : Addr) (o : Obj), mg "CONTROL_KINDS" = some (.ref a) ∧ K.lookup a = some o ∧ KindsAt o
/-- whether a value is a text -/
theorem str_or {K : PySem.W.Frag} {H : Hp} {v : V} {d : PyData} (h : Dn K H v d) : (∃ x, v = .str x ∧ d = .str x) ∨ ((∀ x, d ≠ .str x) ∧ ∃ t, TyX K H v (.type t) ∧ kitB t "str" = some false) := by
  cases h with
  | non => exact .inr ⟨(fun _ z => nomatch z), _, .base .non, by decide +kernel⟩
  | bl b => exact .inr ⟨(fun _ z => nomatch z), _, .base (.bl b), by decide +kernel⟩
  | int i => exact .inr ⟨(fun _ z => nomatch z), _, .base (.int i), by decide +kernel⟩
  | str x => exact .inl ⟨x, rfl, rfl⟩
  | lst e _ => exact .inr ⟨(fun _ z => nomatch z), _, .base (.lst e), by decide +kernel⟩
  | tup e t => exact .inr ⟨(fun _ z => nomatch z), _, e.ty, by decide +kernel⟩
  | dic e => exact .inr ⟨(fun _ z => nomatch z), _, .base (.dK e), by decide +kernel⟩
  | dic1 e => exact .inr ⟨(fun _ z => nomatch z), _, .base (.dK e), by decide +kernel⟩
section
variable {P : Program} {w : World} {K : PySem.W.Frag} {mg : Str → Option Value} {base : Heap} {H : Hp}
def spKind (K : PySem.W.Frag) : Sp := fun vs H Q _ => ∃ (v : V) (d : PyData), vs = [v] ∧ Dn K H v d ∧ Q (.bl (isKind d)) H
theorem ok_kind {f : Addr} {fd : FuncData} (F : Fun K "is_control_kind" "is_control_kind" s_is_control_kind f fd) (Y : Bn mg) (T : TxtK K mg) : FnOk P w K mg base CX0 1 f fd ["value"] (spKind K) := by
  obtain ⟨ck, o, gm, lk, its, n, o1, o2, o3, o4⟩ := T.ex
  refine F.ok sc_is_control_kind (fun vs H Q E h => ?_) (fun cdv A outer s H vs Q E hr h => ?_)
  · obtain ⟨v, d, rfl, _⟩ := h
    rfl
  · obtain ⟨v, d, rfl, dn, q⟩ := h
    refine ⟨_, (pss_one (ps_ret (pe_and (pe_callB call_isi (by rfl) Y.isinstance (by decide +kernel) (pa_cons (pv 0) (pa_cons (pe_bltn (v := .ty "str") (by rfl) Y.str (by decide +kernel) rfl) pa_nil))) (pe_one (pe_cmpR op_in_seq (pv 0) (pe_glob (v := .ref ck) (by rfl) gm rfl) rfl))))), ?_⟩
    rcases str_or dn with ⟨x, rfl, rfl⟩ | ⟨no, t, ty, kt⟩
    · refine ⟨_, rfl, _, _, _, _, true, rfl, .ty "str", .base (.str x), kit_ty (by decide +kernel), _, rfl, iteT ?_⟩
      refine ⟨_, rfl, ck, _, rfl, .inr (.inr ⟨o, its, n, lk, o1, o2, o3, o4⟩), rfl, flat_strs _, ?_⟩
      show Q (.bl (inV (.str x) (KINDS.map V.str))) H
      rw [inV_strs]
      exact q
    · refine ⟨v, rfl, v, _, _, _, false, rfl, .ty "str", ty, kit_ty kt, _, rfl, iteF ?_⟩
      have z : isKind d = false := by
        cases d with
        | str x => exact absurd rfl (no x)
        | _ => rfl
      rw [z] at q
      exact q
end
end My

namespace My
open PySem PySem.Spec PyProof.Rows L2 Gy Xl Xs Xt
/-! ### items, over data -/
def isWord : PyData → Bool
  | .str x => decide ((1 : Int) ≤ (x.length : Int)) && decide ((x.length : Int) ≤ 12) && allIn WSG x
  | _ => false
def isMsg : List PyData → Bool
  | [w, x, b] => isHost w && (isWord x && isIdx 2 b)
  | _ => false
def isItem : PyData → Bool
  | .tuple (.str k :: ds) => if k = "message" then isMsg ds else if k = "bye" then ds.isEmpty else decide (k ∈ KINDS) && isRel (.tuple ds)
  | _ => false
theorem word_dn {K : PySem.W.Frag} {H : Hp} {v : V} {d : PyData} (h : Dn K H v d) : textOf v WSG 12 = isWord d := by
  cases h <;> rfl
theorem isMsg_n {ds : List PyData} (h : ds.length ≠ 3) : isMsg ds = false := by
  match ds, h with
  | [], _ => rfl
  | [a], _ => rfl
  | [a, b], _ => rfl
  | [a, b, c], h => exact absurd rfl h
  | a :: b :: c :: d :: ds, _ => rfl
theorem cut1 (x : V) (xs : List V) : cutV (x :: xs) (some 1) none = xs := by
  unfold cutV
  rw [show (some 1 : Option Int) = some ((1 : Nat) : Int) from rfl, HT.sIx_nat, HT.sIx_none, List.length_cons, show min 1 (xs.length + 1) = 1 by omega]
  show (List.drop 0 xs).take _ = _
  rw [List.drop_zero, List.take_of_length_le (by omega)]
structure TxtI (mg : Str → Option Value) : Prop where
  ms : ∃ t, mg "MESSAGE" = some (.str "message" t)
  by_ : ∃ t, mg "BYE" = some (.str "bye" t)
  bt : ∃ t, mg "BITS" = some (.int 2 t)
section
variable {P : Program} {w : World} {K : PySem.W.Frag} {mg : Str → Option Value} {base : Heap} {H : Hp}
def spMsg (K : PySem.W.Frag) : Sp := fun vs H Q _ => ∃ (a : Addr) (xs : List V) (ds : List PyData), vs = [.ref a] ∧ Tz H a xs ∧ Dns K H xs ds ∧ smls ds = true ∧ ∀ H', Same H H' → Q (.bl (isMsg ds)) H'
theorem ok_msg {f : Addr} {fd : FuncData} (F : Fun K "are_message_parts" "are_message_parts" s_are_message_parts f fd) (Y : Bn mg) (T : TxtI mg) (G_is_host_name : Fk P w K mg base CX0 2 "is_host_name" ["value"] (spHost K)) (G_is_word : Fk P w K mg base CX0 2 "is_word" ["value"] (spWord K))
    (G_is_index : Fk P w K mg base CX0 2 "is_index" ["value", "size"] (spIdx K)) : FnOk P w K mg base CX0 3 f fd ["parts"] (spMsg K) := by
  obtain ⟨t1, e1⟩ := T.bt
  refine F.ok sc_are_message_parts (fun vs H Q E h => ?_) (fun cdv A outer s H vs Q E hr h => ?_)
  · obtain ⟨a, xs, ds, rfl, _⟩ := h
    rfl
  · obtain ⟨a, xs, ds, rfl, ha, hd, sm, q⟩ := h
    have el := Dns.len hd
    refine ⟨_, (pss_cons (ps_if (pt_cmpR op_ne (pe_callB call_len_seq (by rfl) Y.len PySem.boot_len (pa_cons (pv 0) pa_nil)) pe_int (nomark _))
 (pss_one (ps_ret pe_bl))
 pss_nil)
 (pss_cons (ps_asg (pv 0) (pg_tup (by rfl) (pgs_cons (pg_name (i := 1) sc_are_message_parts.nd rfl (Or.inl rfl)) (pgs_cons (pg_name (i := 2) sc_are_message_parts.nd rfl (Or.inl rfl)) (pgs_cons (pg_name (i := 3) sc_are_message_parts.nd rfl (Or.inl rfl)) pgs_nil)))))
 (pss_one (ps_ret (pe_and (pe_callF G_is_host_name (hr.mono (by decide)) (by rfl) pass0 (pa_cons (pv 1) pa_nil)) (pe_and (pe_callF G_is_word (hr.mono (by decide)) (by rfl) pass0 (pa_cons (pv 2) pa_nil)) (pe_one (pe_callF G_is_index (hr.mono (by decide)) (by rfl) pass0 (pa_cons (pv 3) (pa_cons (pe_glob (v := .int 2) (by rfl) e1 ⟨_, rfl⟩) pa_nil)))))))))), ?_⟩
    refine ⟨_, rfl, a, _, rfl, .inr ha.sq, rfl, _, rfl, ite2 (fun c => ?_) (fun c => ?_)⟩
    · have c' : ds.length ≠ 3 := fun z => by
        rw [decide_eq_true (show V.int (xs.length : Int) = V.int 3 by rw [el, z]; rfl)] at c
        cases c
      rw [isMsg_n c'] at q
      exact q _ (Same.refl _)
    · have c' : xs.length = 3 := by
        have z : V.int (xs.length : Int) = V.int 3 := Decidable.of_not_not fun z => c (by rw [decide_eq_false z]; rfl)
        injection z with z
        omega
      obtain ⟨x, y, z, rfl⟩ : ∃ x y z, xs = [x, y, z] := by
        match xs, c' with
        | [x, y, z], _ => exact ⟨x, y, z, rfl⟩
      cases hd with
      | @cons _ _ dx _ h1 hd =>
      cases hd with
      | @cons _ _ dy _ h2 hd =>
      cases hd with
      | @cons _ _ dz _ h3 hd =>
        cases hd
        have m1 : sml dx = true := smls_mem sm List.mem_cons_self
        have m2 : sml dy = true := smls_mem sm (List.mem_cons_of_mem _ List.mem_cons_self)
        refine ⟨_, rfl, a, _, rfl, ha.sq, rfl, _, _, rfl, _, _, rfl, _, _, rfl, rfl, ?_⟩
        have e : isMsg [dx, dy, dz] = (isHost dx && (isWord dy && isIdx 2 dz)) := rfl
        rw [e] at q
        refine ⟨_, rfl, x, rfl, kd_dn h1 m1, fun H1 s1 => ?_⟩
        rw [host_dn h1]
        refine ⟨_, rfl, ite2 (fun c1 => ?_) (fun c1 => ?_)⟩
        · rw [c1, Bool.true_and] at q
          refine ⟨_, rfl, y, rfl, kd_dn (h2.same s1) m2, fun H2 s2 => ?_⟩
          rw [word_dn h2]
          refine ⟨_, rfl, ite2 (fun c2 => ?_) (fun c2 => ?_)⟩
          · rw [c2, Bool.true_and] at q
            exact ⟨_, rfl, z, 2, dz, rfl, (h3.same s1).same s2, q _ (s1.trans s2)⟩
          · rw [Bool.eq_false_iff.mpr c2, Bool.false_and] at q
            exact q _ (s1.trans s2)
        · rw [Bool.eq_false_iff.mpr c1, Bool.false_and] at q
          exact q _ s1
def spItem (K : PySem.W.Frag) : Sp := fun vs H Q _ => ∃ (v : V) (d : PyData), vs = [v] ∧ Dn K H v d ∧ sml d = true ∧ ∀ H', Same H H' → Q (.bl (isItem d)) H'
theorem smls_tail {d : PyData} {ds : List PyData} (h : smls (d :: ds) = true) : smls ds = true := by
  have h2 : sml d = true ∧ smls ds = true := by simpa only [smls, Bool.and_eq_true] using h
  exact h2.2
theorem ok_item {f : Addr} {fd : FuncData} (F : Fun K "is_item" "is_item" s_is_item f fd) (Y : Bn mg) (T : TxtI mg) (G_are_message_parts : Fk P w K mg base CX0 3 "are_message_parts" ["parts"] (spMsg K)) (G_is_control_kind : Fk P w K mg base CX0 1 "is_control_kind" ["value"] (spKind K))
    (G_is_relink : Fk P w K mg base CX0 4 "is_relink" ["value"] (spRel K)) : FnOk P w K mg base CX0 5 f fd ["value"] (spItem K) := by
  obtain ⟨t1, e1⟩ := T.ms
  obtain ⟨t2, e2⟩ := T.by_
  refine F.ok sc_is_item (fun vs H Q E h => ?_) (fun cdv A outer s H vs Q E hr h => ?_)
  · obtain ⟨v, d, rfl, _⟩ := h
    rfl
  · obtain ⟨v, d, rfl, dn, sm, q⟩ := h
    refine ⟨_, (pss_cons (ps_if (PW.pt (pw_or (pt_not (pt_val (pe_callB call_isi (by rfl) Y.isinstance (by decide +kernel) (pa_cons (pv 0) (pa_cons (pe_bltn (v := .ty "tuple") (by rfl) Y.tuple (by decide +kernel) rfl) pa_nil))))) (pw_or (pt_cmpR op_eq (pe_callB call_len_seq (by rfl) Y.len PySem.boot_len (pa_cons (pv 0) pa_nil)) pe_int (nomark _)) (pw_or1 (pt_not (pt_val (pe_callB call_isi (by rfl) Y.isinstance (by decide +kernel) (pa_cons (pe_ix ix_tup (pv 0) pe_int (fun _ _ => rfl)) (pa_cons (pe_bltn (v := .ty "str") (by rfl) Y.str (by decide +kernel) rfl) pa_nil)))))))))
 (pss_one (ps_ret pe_bl))
 pss_nil)
 (pss_cons (ps_set (i := 1) sc_is_item.nd rfl (.inl rfl) (pe_slice sl_cutA (pv 0) (po_some pe_int) po_none))
 (pss_cons (ps_if (pt_cmpR op_eq (pe_ix ix_tup (pv 0) pe_int (fun _ _ => rfl)) (pe_glob (v := .str "message") (by rfl) e1 ⟨_, rfl⟩) (nomark _))
 (pss_one (ps_ret (pe_callF G_are_message_parts (hr.mono (by decide)) (by rfl) pass0 (pa_cons (pv 1) pa_nil))))
 pss_nil)
 (pss_cons (ps_if (pt_cmpR op_eq (pe_ix ix_tup (pv 0) pe_int (fun _ _ => rfl)) (pe_glob (v := .str "bye") (by rfl) e2 ⟨_, rfl⟩) (nomark _))
 (pss_one (ps_ret (pe_cmpR op_eq (pe_callB call_len_seq (by rfl) Y.len PySem.boot_len (pa_cons (pv 1) pa_nil)) pe_int (nomark _))))
 pss_nil)
 (pss_one (ps_ret (pe_and (pe_callF G_is_control_kind (hr.mono (by decide)) (by rfl) pass0 (pa_cons (pe_ix ix_tup (pv 0) pe_int (fun _ _ => rfl)) pa_nil)) (pe_one (pe_callF G_is_relink (hr.mono (by decide)) (by rfl) pass0 (pa_cons (pv 1) pa_nil)))))))))), ?_⟩
    rcases tup_or dn with ⟨a, xs, ds, rfl, rfl, ha, hd⟩ | ⟨no, t, ty, kt⟩
    · have sm2 : ds.length ≤ 14 ∧ smls ds = true := by simpa only [sml, Bool.and_eq_true, decide_eq_true_eq] using sm
      refine ⟨_, rfl, _, _, _, _, true, rfl, .ty "tuple", ha.ty, kit_ty (by decide +kernel), _, rfl, iteF ?_⟩
      refine ⟨_, rfl, a, _, rfl, .inr ha.sq, rfl, _, rfl, ?_⟩
      cases hd with
      | nil =>
        refine iteT (iteT ?_)
        exact q _ (Same.refl _)
      | @cons x xs d0 ds h0 hd =>
        refine iteF ?_
        refine ⟨_, rfl, a, _, 0, x, rfl, rfl, ha.sq, atI_nat (j := 0) rfl, ?_⟩
        rcases str_or h0 with ⟨k, rfl, rfl⟩ | ⟨no, t, ty, kt⟩
        · refine ⟨_, _, _, _, true, rfl, .ty "str", .base (.str k), kit_ty (by decide +kernel), _, rfl, iteF ?_⟩
          have e : isItem (.tuple (.str k :: ds)) = (if k = "message" then isMsg ds else if k = "bye" then ds.isEmpty else decide (k ∈ KINDS) && isRel (.tuple ds)) := rfl
          rw [e] at q
          refine ⟨_, rfl, 1, rfl, a, _, rfl, ha, ?_⟩
          rw [cut1]
          have el := Dns.len hd
          refine ⟨fun z => ?_, fun p o np st tp => ?_⟩
          · have z := congrArg List.length z
            rw [List.length_cons] at z
            omega
          generalize upd _ p o = H1 at st tp ⊢
          have ha1 := ha.same st
          have hd1 := hd.same st
          have sp : smls ds = true := smls_tail sm2.2
          have lp : ds.length ≤ 14 := by have := sm2.1; rw [List.length_cons] at this; omega
          refine ⟨_, rfl, a, _, 0, _, rfl, rfl, ha1.sq, atI_nat (j := 0) rfl, rfl, _, rfl, ite2 (fun c1 => ?_) (fun c1 => ?_)⟩
          · have c1' : k = "message" := by
              have z := of_decide_eq_true c1
              injection z
            rw [if_pos c1'] at q
            exact ⟨_, rfl, p, _, ds, rfl, tp, hd1, sp, fun H2 s2 => q _ (st.trans s2)⟩
          have c1' : ¬ k = "message" := fun z => c1 (decide_eq_true (by rw [z]))
          rw [if_neg c1'] at q
          refine ⟨_, rfl, a, _, 0, _, rfl, rfl, ha1.sq, atI_nat (j := 0) rfl, rfl, _, rfl, ite2 (fun c2 => ?_) (fun c2 => ?_)⟩
          · have c2' : k = "bye" := by
              have z := of_decide_eq_true c2
              injection z
            rw [if_pos c2'] at q
            refine ⟨_, rfl, p, _, rfl, .inr tp.sq, rfl, ?_⟩
            have z : decide (V.int (xs.length : Int) = V.int 0) = ds.isEmpty := by
              rw [el]
              cases ds with
              | nil => rfl
              | cons y ys =>
                refine decide_eq_false fun w => ?_
                injection w with w
                rw [List.length_cons] at w
                omega
            rw [z]
            exact q _ st
          have c2' : ¬ k = "bye" := fun z => c2 (decide_eq_true (by rw [z]))
          rw [if_neg c2'] at q
          refine ⟨_, rfl, a, _, 0, _, rfl, rfl, ha1.sq, atI_nat (j := 0) rfl, _, .str k, rfl, .str k, _, rfl, ?_⟩
          have ek : isKind (.str k) = decide (k ∈ KINDS) := rfl
          rw [ek]
          refine ite2 (fun c3 => ?_) (fun c3 => ?_)
          · rw [c3, Bool.true_and] at q
            refine ⟨_, rfl, _, .tuple ds, rfl, .tup tp hd1, ?_, fun H2 s2 => q _ (st.trans s2)⟩
            show (decide (ds.length ≤ 14) && smls ds) = true
            rw [decide_eq_true lp, sp]
            rfl
          · rw [Bool.eq_false_iff.mpr c3, Bool.false_and] at q
            exact q _ st
        · refine ⟨_, _, _, _, false, rfl, .ty "str", ty, kit_ty kt, _, rfl, iteT ?_⟩
          have z : isItem (.tuple (d0 :: ds)) = false := by
            cases d0 with
            | str x => exact absurd rfl (no x)
            | _ => rfl
          rw [z] at q
          exact q _ (Same.refl _)
    · refine ⟨v, rfl, v, _, _, _, false, rfl, .ty "tuple", ty, kit_ty kt, _, rfl, ?_⟩
      refine iteT (iteT ?_)
      have z : isItem d = false := by
        cases d with
        | tuple ds => exact absurd rfl (no ds)
        | _ => rfl
      rw [z] at q
      exact q _ (Same.refl _)
end
end My

namespace My
open PySem PySem.Spec PyProof.Rows L2 Gy Xl Xs Xt
theorem le400 {n : Nat} (h : n ≤ 10000) : n ≤ sizeLine := Nat.le_trans h (by decide)
section
variable {P : Program} {w : World} {K : PySem.W.Frag} {mg : Str → Option Value} {base : Heap} {H : Hp}
def spChkI (K : PySem.W.Frag) (C : Addr) : Sp := fun vs H Q E => ∃ (v : V) (d : PyData), vs = [v] ∧ Dn K H v d ∧ sml d = true ∧ (isItem d = true → ∀ H', Same H H' → Q .non H') ∧ (isItem d = false → Ro E C "value" v H)
theorem ok_chkI {f C : Addr} {fd : FuncData} (F : Fun K "check_item" "check_item" s_check_item f fd) (R : Rz P w K mg base "InvalidItem" "value" C)
    (G_is_item : Fk P w K mg base CX0 5 "is_item" ["value"] (spItem K)) : FnOk P w K mg base (L2.CX P w) 6 f fd ["value"] (spChkI K C) := by
  obtain ⟨fI, fdI, XI, GI, bI⟩ := R.ex
  refine F.okX sc_check_item (fun vs H Q E h => ?_) (fun cdv A outer s H vs Q E hr h => ?_)
  · obtain ⟨v, d, rfl, _⟩ := h
    rfl
  · obtain ⟨v, d, rfl, dn, sm, q1, q2⟩ := h
    refine ⟨_, (pss_one (ps_if (pt_not (pt_val (pe_callF G_is_item (hr.mono (by decide)) (by rfl) pass0 (pa_cons (pv 0) pa_nil))))
 (pss_one (ps_raise1 rfl (takes_of rfl rfl rfl rfl) XI R.ty GI (hr.mono (by decide)) bI (by rfl) R.gm (pa_cons (pv 0) pa_nil)))
 pss_nil)), ?_⟩
    refine ⟨_, rfl, v, d, rfl, dn, sm, fun H1 s1 => ⟨_, rfl, ?_⟩⟩
    cases c : isItem d with
    | true => exact iteF (q1 c _ s1)
    | false =>
      refine iteT ⟨_, rfl, v, rfl, fun dx nd => ?_⟩
      exact q2 c _ dx (s1.trans (same_upd nd)) upd_same
end
end My

namespace My
open PySem PySem.Spec PyProof.Rows L2 Gy Xl Xs Xt
/-! ### data without lists stands while lists change -/
/-- what was frozen -/
def fz (H : Hp) : Hp := fun a => match H a with
  | some (.frz o u) => some (.frz o u)
  | _ => none
theorem fz_of {H : Hp} {a : Addr} {o : Obj} {u : HO} (h : H a = some (.frz o u)) : fz H a = some (.frz o u) := by
  unfold fz
  rw [h]
theorem of_fz {H : Hp} {a : Addr} {x : HO} (h : fz H a = some x) : H a = some x ∧ ∃ o u, x = .frz o u := by
  unfold fz at h
  split at h
  · next o u e =>
    injection h with h
    subst h
    exact ⟨e, _, _, rfl⟩
  · cases h
theorem fz_same (H : Hp) : Same (fz H) H := fun b o e => (of_fz e).1
/-- frozen objects stand -/
def FzK (H H' : Hp) : Prop := ∀ b o u, H b = some (.frz o u) → H' b = some (.frz o u)
theorem FzK.refl (H : Hp) : FzK H H := fun _ _ _ e => e
theorem FzK.trans {H H1 H2 : Hp} (a : FzK H H1) (b : FzK H1 H2) : FzK H H2 := fun c o u e => b c o u (a c o u e)
theorem FzK.of {H H' : Hp} (s : Same H H') : FzK H H' := fun b o u e => s b _ e
theorem FzK.upd {H H' : Hp} {a : Addr} {v w : HO} (k : FzK H H') (h : H a = some v) (n : ∀ o u, v ≠ .frz o u) : FzK H (L2.upd H' a w) := fun b o u e => by
  rw [upd_ne fun z => ?_]
  · exact k b o u e
  · rw [z, h] at e
    injection e with e
    exact n o u e
theorem FzK.updN {H H' : Hp} {a : Addr} {w : HO} (k : FzK H H') (n : H a = none) : FzK H (L2.upd H' a w) := fun b o u e => by
  rw [upd_ne (ne_of_none e n)]
  exact k b o u e
theorem fz_keep {H H' : Hp} (h : FzK H H') : Same (fz H) (fz H') := fun b x e => by
  obtain ⟨e1, o, u, rfl⟩ := of_fz e
  exact fz_of (h b o u e1)
mutual
def noL : PyData → Bool
  | .list _ => false
  | .dict _ => false
  | .tuple ds => noLs ds
  | _ => true
def noLs : List PyData → Bool
  | [] => true
  | d :: ds => noL d && noLs ds
end
theorem Tz.fz {H : Hp} {a : Addr} {xs : List V} (h : Tz H a xs) : Tz (My.fz H) a xs := by
  obtain ⟨o, e, c⟩ := h
  exact ⟨o, fz_of e, c⟩
mutual
theorem dn_fz {K : PySem.W.Frag} {H : Hp} : ∀ {v : V} {d : PyData}, Dn K H v d → noL d = true → Dn K (fz H) v d
  | _, _, .non, _ => .non
  | _, _, .bl b, _ => .bl b
  | _, _, .int i, _ => .int i
  | _, _, .str x, _ => .str x
  | _, _, .lst h a, n => nomatch n
  | _, _, .tup h a, n => .tup (Tz.fz h) (dns_fz a n)
  | _, _, .dic h, n => nomatch n
  | _, _, .dic1 h, n => nomatch n
theorem dns_fz {K : PySem.W.Frag} {H : Hp} : ∀ {vs : List V} {ds : List PyData}, Dns K H vs ds → noLs ds = true → Dns K (fz H) vs ds
  | _, _, .nil, _ => .nil
  | _, _, .cons (d := d) (ds := ds) h t, n => by
    have n2 : noL d = true ∧ noLs ds = true := by simpa only [noLs, Bool.and_eq_true] using n
    exact .cons (dn_fz h n2.1) (dns_fz t n2.2)
end
theorem host_str {d : PyData} (h : isHost d = true) : noL d = true := by
  cases d with
  | str x => rfl
  | _ => exact absurd (show false = true from h) (by decide)
theorem word_str {d : PyData} (h : isWord d = true) : noL d = true := by
  cases d with
  | str x => rfl
  | _ => exact absurd (show false = true from h) (by decide)
theorem idx_noL {n : Int} {d : PyData} (h : isIdx n d = true) : noL d = true := by
  cases d with
  | int i => rfl
  | _ => exact absurd (show false = true from h) (by decide)
theorem hosts_noL : ∀ {ds : List PyData}, ds.all isHost = true → noLs ds = true
  | [], _ => rfl
  | d :: ds, h => by
    have h2 : isHost d = true ∧ ds.all isHost = true := by simpa only [List.all_cons, Bool.and_eq_true] using h
    show (noL d && noLs ds) = true
    rw [host_str h2.1, hosts_noL h2.2]
    rfl
theorem item_noL {d : PyData} (h : isItem d = true) : noL d = true := by
  match d, h with
  | .tuple (.str k :: ds), h =>
    show (true && noLs ds) = true
    rw [Bool.true_and]
    have h1 : (if k = "message" then isMsg ds else if k = "bye" then ds.isEmpty else decide (k ∈ KINDS) && isRel (.tuple ds)) = true := h
    split at h1
    · match ds, h1 with
      | [w, x, b], h1 =>
        have h2 : isHost w = true ∧ isWord x = true ∧ isIdx 2 b = true := by simpa only [isMsg, Bool.and_eq_true] using h1
        show (noL w && (noL x && (noL b && true))) = true
        rw [host_str h2.1, word_str h2.2.1, idx_noL h2.2.2]
        rfl
    · split at h1
      · match ds, h1 with
        | [], _ => rfl
      · have h2 : isRel (.tuple ds) = true := by
          simp only [Bool.and_eq_true] at h1
          exact h1.2
        match ds, h2 with
        | [.tuple es, c], h2 =>
          have h3 : isPath (.tuple es) = true ∧ isIdx ((es.length : Int) - 1) c = true := by simpa only [isRel, Bool.and_eq_true] using h2
          have h4 : decide (3 ≤ es.length) = true ∧ es.all isHost = true ∧ decide ((txts es).Nodup) = true := by simpa only [isPath, Bool.and_eq_true] using h3.1
          show (noLs es && (noL c && true)) = true
          rw [hosts_noL h4.2.1, idx_noL h3.2]
          rfl
end My

namespace My
open PySem PySem.Spec PyProof.Rows L2 Gy Xl Xs Xt
/-! ### data that stand while the pot changes -/
def wo (r : Addr) (H : Hp) : Hp := fun a => if a = r then none else H a
theorem wo_at {r a : Addr} {H : Hp} (n : a ≠ r) : wo r H a = H a := if_neg n
theorem wo_same (r : Addr) (H : Hp) : Same (wo r H) H := fun b o e => by
  by_cases h : b = r
  · rw [wo, if_pos h] at e
    cases e
  · rw [wo_at h] at e
    exact e
theorem wo_but {r : Addr} {H H' : Hp} (h : But r H H') : Same (wo r H) (wo r H') := fun b o e => by
  by_cases n : b = r
  · rw [wo, if_pos n] at e
    cases e
  · rw [wo_at n] at e
    rw [wo_at n]
    exact h b o n e
section
variable {K : PySem.W.Frag} {H H' : Hp} {r : Addr}
/-- data none of which is the pot -/
def Db (K : PySem.W.Frag) (r : Addr) (H : Hp) (v : V) (d : PyData) : Prop := Dn K (wo r H) v d
def Dbs (K : PySem.W.Frag) (r : Addr) (H : Hp) (vs : List V) (ds : List PyData) : Prop := Dns K (wo r H) vs ds
theorem Db.dn {v : V} {d : PyData} (h : Db K r H v d) : Dn K H v d := Dn.same (wo_same r H) h
theorem Db.but {v : V} {d : PyData} (h : Db K r H v d) (b : But r H H') : Db K r H' v d := Dn.same (wo_but b) h
theorem Db.same {v : V} {d : PyData} (h : Db K r H v d) (s : Same H H') : Db K r H' v d := h.but (But.of s)
theorem Dbs.dns {vs : List V} {ds : List PyData} (h : Dbs K r H vs ds) : Dns K H vs ds := Dns.same (wo_same r H) h
theorem Dbs.but {vs : List V} {ds : List PyData} (h : Dbs K r H vs ds) (b : But r H H') : Dbs K r H' vs ds := Dns.same (wo_but b) h
theorem Dbs.same {vs : List V} {ds : List PyData} (h : Dbs K r H vs ds) (s : Same H H') : Dbs K r H' vs ds := h.but (But.of s)
theorem tz_wo {t : Addr} {xs : List V} (R : Rng H r) (z : Tz H t xs) : Tz (wo r H) t xs := by
  obtain ⟨o, e, c⟩ := z
  refine ⟨o, ?_, c⟩
  rw [wo_at (fun n => ?_)]
  · exact e
  · obtain ⟨x, y, e2, _⟩ := R
    rw [n, e2] at e
    cases e
theorem Db.tup {t : Addr} {xs : List V} {ds : List PyData} (R : Rng H r) (z : Tz H t xs) (h : Dbs K r H xs ds) : Db K r H (.ref t) (.tuple ds) := Dn.tup (tz_wo R z) h
theorem Db.lst {l : Addr} {xs : List V} {ds : List PyData} (n : l ≠ r) (e : H l = some (.lst xs)) (h : Dbs K r H xs ds) : Db K r H (.ref l) (.list ds) := Dn.lst (by rw [wo_at n]; exact e) h
theorem Db.dic {l : Addr} (n : l ≠ r) (e : H l = some (.dK [])) : Db K r H (.ref l) (.dict []) := Dn.dic (by rw [wo_at n]; exact e)
theorem Db.dic1 {l : Addr} (n : l ≠ r) (e : H l = some (.dK [(Sum.inr "a", .int 1)])) : Db K r H (.ref l) (.dict [(.str "a", .int 1)]) := Dn.dic1 (by rw [wo_at n]; exact e)
theorem Db.str (x : Str) : Db K r H (.str x) (.str x) := Dn.str x
theorem Db.int (i : Int) : Db K r H (.int i) (.int i) := Dn.int i
theorem Db.bl (b : Bool) : Db K r H (.bl b) (.bool b) := Dn.bl b
theorem Db.non : Db K r H .non .none := Dn.non
theorem Dbs.nil : Dbs K r H [] [] := Dns.nil
theorem Dbs.cons {v : V} {vs : List V} {d : PyData} {ds : List PyData} (h : Db K r H v d) (t : Dbs K r H vs ds) : Dbs K r H (v :: vs) (d :: ds) := Dns.cons h t
theorem dns_app : ∀ {vs us : List V} {ds es : List PyData}, Dns K H vs ds → Dns K H us es → Dns K H (vs ++ us) (ds ++ es)
  | _, _, _, _, .nil, h => h
  | _, _, _, _, .cons a t, h => .cons a (dns_app t h)
theorem Dbs.app {vs us : List V} {ds es : List PyData} (h : Dbs K r H vs ds) (h2 : Dbs K r H us es) : Dbs K r H (vs ++ us) (ds ++ es) := dns_app h h2
theorem dns_drop : ∀ {vs : List V} {ds : List PyData} (n : Nat), Dns K H vs ds → Dns K H (vs.drop n) (ds.drop n)
  | _, _, 0, h => h
  | _, _, n + 1, .nil => .nil
  | _, _, n + 1, .cons a t => dns_drop n t
theorem dns_take : ∀ {vs : List V} {ds : List PyData} (n : Nat), Dns K H vs ds → Dns K H (vs.take n) (ds.take n)
  | _, _, 0, _ => .nil
  | _, _, n + 1, .nil => .nil
  | _, _, n + 1, .cons a t => .cons a (dns_take n t)
theorem Dbs.drop {vs : List V} {ds : List PyData} (n : Nat) (h : Dbs K r H vs ds) : Dbs K r H (vs.drop n) (ds.drop n) := dns_drop n h
theorem Dbs.take {vs : List V} {ds : List PyData} (n : Nat) (h : Dbs K r H vs ds) : Dbs K r H (vs.take n) (ds.take n) := dns_take n h
theorem dns_rev : ∀ {vs : List V} {ds : List PyData}, Dns K H vs ds → Dns K H vs.reverse ds.reverse
  | _, _, .nil => .nil
  | _, _, .cons a t => by
    rw [List.reverse_cons, List.reverse_cons]
    exact dns_app (dns_rev t) (.cons a .nil)
theorem Dbs.rev {vs : List V} {ds : List PyData} (h : Dbs K r H vs ds) : Dbs K r H vs.reverse ds.reverse := dns_rev h
theorem dns_mem : ∀ {vs : List V} {ds : List PyData} {v : V}, Dns K H vs ds → v ∈ vs → ∃ d, d ∈ ds ∧ Dn K H v d
  | _, _, _, .nil, h => nomatch h
  | _, _, v, .cons (d := d) a t, h => by
    rcases List.mem_cons.mp h with rfl | h
    · exact ⟨d, List.mem_cons_self, a⟩
    · obtain ⟨e, m, z⟩ := dns_mem t h
      exact ⟨e, List.mem_cons_of_mem _ m, z⟩
theorem Dbs.mem {vs : List V} {ds : List PyData} {v : V} (h : Dbs K r H vs ds) (m : v ∈ vs) : ∃ d, d ∈ ds ∧ Db K r H v d := dns_mem h m
theorem Dbs.len {vs : List V} {ds : List PyData} (h : Dbs K r H vs ds) : vs.length = ds.length := Dns.len h.dns
theorem Dbs.get {vs : List V} {ds : List PyData} (h : Dbs K r H vs ds) {i : Nat} {v : V} (e : vs[i]? = some v) : ∃ d, ds[i]? = some d ∧ Db K r H v d := Dns.get (show Dns K (wo r H) vs ds from h) e
theorem dbs_strs (xs : List Str) : Dbs K r H (xs.map V.str) (xs.map PyData.str) := by
  induction xs with
  | nil => exact .nil
  | cons x xs ih => exact .cons (.str x) ih
theorem upd_new {l : Addr} {o : HO} (e : upd H l o = H') (n : H l = none) : Same H H' ∧ H' l = some o := by
  rw [← e]
  exact ⟨same_upd n, upd_same⟩
end
/-! ### how large they are -/
structure Bd (n W : Nat) (d : PyData) : Prop where
  sh : d.showable = true
  lf : d.leavesShort 40 = true
  dp : d.depth ≤ n
  wt : d.weight ≤ W
  sm : sml d = true
theorem Bd.mono {n W n' W' : Nat} {d : PyData} (h : Bd n W d) (a : n ≤ n') (b : W ≤ W') : Bd n' W' d := ⟨h.sh, h.lf, Nat.le_trans h.dp a, Nat.le_trans h.wt b, h.sm⟩
def Fits (d : PyData) : Prop := d.showable = true ∧ d.depth ≤ 60 ∧ d.shown.length ≤ sizeLine
theorem Bd.fits {n W : Nat} {d : PyData} (h : Bd n W d) (a : n ≤ 60) (b : W ≤ 300000) : Fits d := by
  refine ⟨h.sh, Nat.le_trans h.dp a, ?_⟩
  have l := PyData.shown_le 40 (by decide) d h.lf
  have w := h.wt
  have m : (40 + 2) * d.weight ≤ 42 * 300000 := Nat.mul_le_mul (by decide) (by omega)
  rw [sizeLine_eq]
  omega
theorem bds {n W : Nat} : ∀ {ds : List PyData}, (∀ d ∈ ds, Bd n W d) → PyData.showableAll ds = true ∧ PyData.leavesShortAll 40 ds = true ∧ PyData.depthAll ds ≤ n ∧ PyData.weightAll ds ≤ ds.length * (W + 1) ∧ smls ds = true
  | [], _ => ⟨rfl, rfl, Nat.zero_le _, Nat.zero_le _, rfl⟩
  | d :: ds, h => by
    obtain ⟨a1, a2, a3, a4, a5⟩ := bds (ds := ds) fun e he => h e (List.mem_cons_of_mem _ he)
    have g := h d List.mem_cons_self
    refine ⟨?_, ?_, ?_, ?_, ?_⟩
    · show (d.showable && PyData.showableAll ds) = true
      rw [g.sh, a1]
      rfl
    · show (d.leavesShort 40 && PyData.leavesShortAll 40 ds) = true
      rw [g.lf, a2]
      rfl
    · show max d.depth (PyData.depthAll ds) ≤ n
      have := g.dp
      omega
    · show d.weight + 1 + PyData.weightAll ds ≤ (ds.length + 1) * (W + 1)
      have := g.wt
      rw [Nat.add_mul, Nat.one_mul]
      omega
    · show (sml d && smls ds) = true
      rw [g.sm, a5]
      rfl
theorem Bd.tup {n W L : Nat} {ds : List PyData} (h : ∀ d ∈ ds, Bd n W d) (l : ds.length ≤ L) (L14 : L ≤ 14) : Bd (n + 1) (L * (W + 1)) (.tuple ds) := by
  obtain ⟨a1, a2, a3, a4, a5⟩ := bds h
  refine ⟨a1, a2, Nat.succ_le_succ a3, Nat.le_trans a4 (Nat.mul_le_mul_right _ l), ?_⟩
  show (decide (ds.length ≤ 14) && smls ds) = true
  rw [decide_eq_true (by omega), a5]
  rfl
theorem Bd.lst {n W L : Nat} {ds : List PyData} (h : ∀ d ∈ ds, Bd n W d) (l : ds.length ≤ L) (L14 : L ≤ 14) : Bd (n + 1) (L * (W + 1)) (.list ds) := by
  obtain ⟨a1, a2, a3, a4, a5⟩ := bds h
  refine ⟨a1, a2, Nat.succ_le_succ a3, Nat.le_trans a4 (Nat.mul_le_mul_right _ l), ?_⟩
  show (decide (ds.length ≤ 14) && smls ds) = true
  rw [decide_eq_true (by omega), a5]
  rfl
/-- a part: not deep, not large -/
abbrev A0 (d : PyData) : Prop := Bd 1 120 d
theorem a0_txt {x : Str} (h : (decide (x.length ≤ 20) && x.cps.toList.all fun c => decide (c < 0x110000)) = true := by decide +kernel) : A0 (.str x) := by
  rw [Bool.and_eq_true, decide_eq_true_eq] at h
  refine ⟨rfl, List.all_eq_true.mpr fun c hc => decide_eq_true (Nat.lt_of_lt_of_le (of_decide_eq_true (List.all_eq_true.mp h.2 c hc)) (by decide)), Nat.zero_le _, ?_, decide_eq_true h.1⟩
  show x.cps.size ≤ 120
  have : x.cps.size ≤ 20 := h.1
  omega
theorem a0_nm {x : Str} (h : Nm x) : A0 (.str x) := a0_txt (by
  rw [Bool.and_eq_true, decide_eq_true_eq]
  refine ⟨by have := h.2.1; omega, List.all_eq_true.mpr fun c hc => ?_⟩
  have z : ∀ d ∈ LET.cps.toList, d < 0x110000 := by decide +kernel
  exact decide_eq_true (z c (h.2.2 c hc)))
theorem a0_int {i : Int} (h : (decide ((PyData.shown (.int i)).length ≤ 40) && decide (i.natAbs.log2 < 110)) = true := by decide +kernel) : A0 (.int i) := by
  rw [Bool.and_eq_true, decide_eq_true_eq, decide_eq_true_eq] at h
  refine ⟨?_, decide_eq_true h.1, Nat.zero_le _, ?_, rfl⟩
  · show decide (i.natAbs.log2 < 1920) = true
    exact decide_eq_true (by omega)
  · show (if (i == 0) = true then 0 else i.natAbs.log2 + 1) ≤ 120
    split <;> omega
theorem a0_nat {n : Nat} (h : n ≤ 100) : A0 (.int (n : Int)) := by
  have z : ∀ m : Fin 101, (decide ((PyData.shown (.int ((m.val : Nat) : Int))).length ≤ 40) && decide (((m.val : Nat) : Int).natAbs.log2 < 110)) = true := by decide +kernel
  exact a0_int (z ⟨n, by omega⟩)
theorem a0_bl {b : Bool} : A0 (.bool b) := ⟨rfl, rfl, Nat.zero_le _, Nat.zero_le _, rfl⟩
theorem a0_non : A0 .none := ⟨rfl, rfl, Nat.zero_le _, Nat.zero_le _, rfl⟩
theorem a0_dic1 : A0 (.dict [(.str "a", .int 1)]) := ⟨rfl, by decide +kernel, by decide +kernel, by decide +kernel, rfl⟩
theorem a0_dic : A0 (.dict []) := ⟨rfl, rfl, by decide, Nat.zero_le _, rfl⟩
/-- a part that, if it is a tuple, has few and small parts -/
def PT (m : Nat) (p : PyData) : Prop := ∀ qs, p = .tuple qs → qs.length ≤ m ∧ ∀ q ∈ qs, A0 q
end My

namespace My
open PySem PySem.Spec PyProof.Rows L2 Gy Xl Xs Xt
/-! ### a drawn name -/
section
variable {P : Program} {w : World} {K : PySem.W.Frag} {mg : Str → Option Value} {base : Heap} {H : Hp}
def spName : Sp := fun vs H Q _ => ∃ (r ua : Addr) (us : List Str), vs = [.ref r, .ref ua] ∧ Rng H r ∧ ua ≠ r ∧ H ua = some (.lst (us.map V.str)) ∧ us.length ≤ 20 ∧ (∀ x ∈ us, Nm x) ∧ ∀ H' x, But r H H' → Rng H' r → Nm x → x ∉ us → Q (.str x) H'
theorem ok_name {f : Addr} {fd : FuncData} (F : Fun K "_law_name" "_law_name" s_law_name f fd) (Y : Bn mg) (G_law_draw : Fk P w K mg base CX0 1 "_law_draw" ["_law_pot_here", "_law_count"] spDraw) : FnOk P w K mg base CX0 2 f fd ["_law_pot_here", "_law_used"] spName := by
  refine F.ok sc_law_name (fun vs H Q E h => ?_) (fun cdv A outer s H vs Q E hr h => ?_)
  · obtain ⟨r, ua, us, rfl, _⟩ := h
    rfl
  · obtain ⟨r, ua, us, rfl, R, nu, hu, lu, nmu, q⟩ := h
    have hu64 := hr.units
    refine ⟨_, (pss_cons (ps_set (i := 2) sc_law_name.nd rfl (.inr rfl) pe_str)
 (pss_cons (ps_set (i := 3) sc_law_name.nd rfl (.inl rfl) (pe_ix ix_list (pe_lst (pa_cons pe_int (pa_cons pe_int (pa_cons pe_int (pa_cons pe_int pa_nil))))) (pe_callF G_law_draw (hr.mono (by decide)) (by rfl) pass0 (pa_cons (pv 0) (pa_cons pe_int pa_nil))) (fun _ _ => rfl)))
 (pss_cons (ps_set (i := 4) sc_law_name.nd rfl (.inr rfl) (pe_join pe_str (pe_lc (own := [("_law_k", 6)]) (g := gName 6) (tt := tYes) rfl sc_law_name.nd (pi_range1 (by rfl) Y.range (pa_cons (pv 3) pa_nil)) (blkOk_by (N := ["_law_pot_here", "_law_used", "_law_letters", "_law_size", "_law_word", "_law_choices", "_law_k", "_law_letter", "_law_choice"]) (sc := defScope s_law_name) (by decide +kernel)) (fun _ _ _ _ _ => (pg_name (i := 6) sc_law_name.nd rfl (Or.inl rfl))) (fun _ _ _ _ _ => pts_nil) (fun _ _ _ _ _ => (pe_ix ix_str (pv 2) (pe_callF G_law_draw (hr.mono (by decide)) (by rfl) pass0 (pa_cons (pv 0) (pa_cons pe_int pa_nil))) (fun _ _ => rfl))))))
 (pss_cons (ps_if (PW.pt (pw_and (pt_cmpR (op_neD hu64) (pv 1) (pe_lst pa_nil) (nomark _)) (pw_and1 (pt_cmpR op_eq (pe_callF G_law_draw (hr.mono (by decide)) (by rfl) pass0 (pa_cons (pv 0) (pa_cons pe_int pa_nil))) pe_int (nomark _)))))
 (pss_one (ps_set (i := 4) sc_law_name.nd rfl (.inr rfl) (pe_slice sl_str (pe_op op_add_str (pe_ix ix_list (pv 1) (pe_un un_neg pe_int) (fun _ _ => rfl)) (pv 4)) po_none (po_some pe_int))))
 pss_nil)
 (pss_cons (ps_set (i := 5) sc_law_name.nd rfl (.inl rfl) (pe_op op_cat (pe_lst (pa_cons (pv 4) pa_nil)) (pe_lc (own := [("_law_letter", 7)]) (g := gName 7) (tt := tYes) rfl sc_law_name.nd (pi_str (pv 2)) (blkOk_by (N := ["_law_pot_here", "_law_used", "_law_letters", "_law_size", "_law_word", "_law_choices", "_law_k", "_law_letter", "_law_choice"]) (sc := defScope s_law_name) (by decide +kernel)) (fun _ _ _ _ _ => (pg_name (i := 7) sc_law_name.nd rfl (Or.inl rfl))) (fun _ _ _ _ _ => pts_nil) (fun _ _ _ _ _ => (pe_op op_add_str (pe_slice sl_str (pv 4) po_none (po_some pe_int)) (pv 7))))))
 (pss_one (ps_ret (pe_ix ix_list (pe_lc (own := [("_law_choice", 8)]) (g := gName 8) (tt := tTest (tOp (rIn K true) (tVar 8) (tVar 1))) rfl sc_law_name.nd (pi_list (pv 5)) (blkOk_by (N := ["_law_pot_here", "_law_used", "_law_letters", "_law_size", "_law_word", "_law_choices", "_law_k", "_law_letter", "_law_choice"]) (sc := defScope s_law_name) (by decide +kernel)) (fun _ _ _ _ _ => (pg_name (i := 8) sc_law_name.nd rfl (Or.inl rfl))) (fun _ _ _ _ _ => (pts_one (pt_cmpR (show OpR _ (compareOp .NotIn) (rIn K true) from op_notIn_seq) (pv 8) (pv 1) rfl))) (fun _ _ _ _ _ => (pv 8))) pe_int (fun _ _ => rfl))))))))), ?_⟩
    -- the size
    refine ⟨(by show 4 ≤ sizeLine; decide), fun l2 n2 => ?_⟩
    have ne2 := R.ne n2
    generalize hg : upd _ l2 _ = H2
    obtain ⟨s2, g2⟩ := upd_new hg n2
    clear hg
    have R := R.same s2
    refine ⟨_, rfl, r, 4, rfl, R, by decide, by decide, fun H3 b b3 R c0 c1 => ?_⟩
    have g2 := b3 _ _ ne2 g2
    obtain ⟨v, hv, mv⟩ := at_in (xs := [V.int 1, .int 1, .int 2, .int 8]) c0 c1
    refine ⟨l2, _, b, v, rfl, rfl, SqL.of g2, hv, ?_⟩
    obtain ⟨m, rfl, m1, m8⟩ : ∃ m : Nat, v = .int (m : Int) ∧ 1 ≤ m ∧ m ≤ 8 := by
      simp only [List.mem_cons, List.not_mem_nil, or_false] at mv
      rcases mv with rfl | rfl | rfl | rfl
      · exact ⟨1, rfl, by decide, by decide⟩
      · exact ⟨1, rfl, by decide, by decide⟩
      · exact ⟨2, rfl, by decide, by decide⟩
      · exact ⟨8, rfl, by decide, by decide⟩
    clear mv hv g2
    have b03 : But r H H3 := (But.of s2).trans b3
    have hu := b03 _ _ nu hu
    clear b3
    generalize H3 = HS at hu b03 R ⊢
    -- the letters
    refine ⟨⟨_, rfl⟩, _, rfl, (m : Int), rfl, by omega, by omega, fun D hD => ?_⟩
    have nD : D ≠ r := R.ne hD
    refine lc_it (walk_range (lo := 0) (n := ((m : Int) - 0).toNat)) (fun i H' => But r HS H' ∧ Rng H' r ∧ ∃ ys : List Str, H' D = some (.lst (ys.map V.str)) ∧ ys.length = i ∧ (∀ y ∈ ys, y.length = 1) ∧ ∀ y ∈ ys, ∀ c ∈ y.cps.toList, c ∈ (LET).cps.toList)
      ⟨But.of (same_upd hD), R.upd hD, [], upd_same, rfl, (fun y z => nomatch z), fun y z => nomatch z⟩ (fun _ _ _ _ => trivial) ?_ ?_
    · rintro j y H4 H5 hj ⟨b4, R4, ys, hY, yl, y1, y2⟩ ⟨rfl, rfl⟩
      refine ⟨rfl, ?_⟩
      dsimp only [tYes]
      refine iteT ?_
      refine ⟨_, rfl, _, rfl, r, 26, rfl, R4, by decide, by decide, fun H6 e b6 R6 e0 e1 => ?_⟩
      obtain ⟨c, hc, mc⟩ := at_in (xs := (LET).cps.toList) e0 (by rw [show (LET).cps.toList.length = 26 by decide +kernel]; exact e1)
      refine ⟨LET, e, c, rfl, rfl, (by decide +kernel), hc, _, b6 D _ nD hY, ?_, ?_, ?_, ys ++ [⟨#[c]⟩], ?_, ?_, ?_, ?_⟩
      · rw [List.length_map, yl]
        exact small200 (by omega)
      · exact (b4.trans b6).upd hD
      · exact R6.upd2 nD
      · rw [upd_same, List.map_append]
        rfl
      · rw [List.length_append, yl]
        rfl
      · intro y hy'
        rcases List.mem_append.mp hy' with z | z
        · exact y1 y z
        · rw [List.mem_singleton.mp z]
          rfl
      · intro y hy'
        rcases List.mem_append.mp hy' with z | z
        · exact y2 y z
        · rw [List.mem_singleton.mp z]
          intro c' hc'
          have hc2 : c' ∈ [c] := hc'
          rw [List.mem_singleton.mp hc2]
          exact mc
    rintro H4 ⟨b4, R4, ys, hY, yl, y1, y2⟩
    refine ⟨"", D, ys, rfl, rfl, .inl (SqL.of hY), ?_, ?_⟩
    · have e1 : (ys.map (·.length)).sum ≤ ys.length := sum_ones ys y1
      show (ys.map (·.length)).sum + ys.length * 0 ≤ 16777216
      omega
    rw [TL.join_eq]
    have jl := join_len ys y1
    have ji := join_in ys y2
    generalize Str.join "" ys = x0 at jl ji ⊢
    clear y1 y2 hY
    have nm1 : Nm x0 := ⟨by omega, by omega, ji⟩
    have b04 := b03.trans b4
    have hu := b4 _ _ nu hu
    have R := R4
    clear b4 R4 jl ji yl
    -- perhaps with the last name ahead of it
    refine ⟨_, rfl, Nat.zero_le _, fun l5 n5 => ?_⟩
    generalize hg : upd _ l5 _ = H5
    obtain ⟨s5, g5⟩ := upd_new hg n5
    clear hg
    have hu := s5 _ _ hu
    have R := R.same s5
    have b04 := b04.trans (But.of s5)
    refine ⟨_, _, .lst (SqL.of hu) (dps_strs us), .lst (SqL.of g5) .nil, sh_strs us nmu, rfl, _, rfl, ite2 (fun c3 => ?A) (fun c3 => ?B)⟩
    case' A =>
      obtain ⟨us1, ul, eu⟩ : ∃ us1 ul, us = us1 ++ [ul] := by
        cases us with
        | nil => exact absurd c3 (by decide)
        | cons x t => exact ⟨_, _, (List.dropLast_concat_getLast (l := x :: t) (by simp)).symm⟩
      have nl := nmu ul (by rw [eu]; exact List.mem_append_right _ List.mem_cons_self)
      refine ⟨_, rfl, r, 5, rfl, R, by decide, by decide, fun H7 e b7 R7 e0 e1 => ⟨rfl, _, rfl, ite2 (fun c4 => ?C) (fun c4 => ?D)⟩⟩
      case' C =>
        have hu := b7 _ _ nu hu
        have R := R7
        have b05 := b04.trans b7
        have nm2 := nm_cut nl nm1
        refine ⟨_, rfl, 1, rfl, ua, _, -1, .str ul, rfl, rfl, SqL.of hu, (by rw [eu, List.map_append]; exact atI_last _ _), _, rfl, ul, x0, rfl, rfl, (by have := nl.2.1; have := nm1.2.1; exact Nat.le_of_lt (small200 (by omega))), 8, rfl, _, rfl, (by have := nl.2.1; have := nm1.2.1; rw [strLen_append]; exact Nat.le_of_lt (small200 (by omega))), ?_⟩
        generalize cutS (ul ++ x0) none (some 8) = x9 at nm2 ⊢
      case' D =>
        have hu := b7 _ _ nu hu
        have R := R7
        have b05 := b04.trans b7
        have nm2 := nm1
        generalize x0 = x9 at nm2 ⊢
    case' B =>
      have b05 := b04
      have nm2 := nm1
      generalize x0 = x9 at nm2 ⊢
    all_goals
      refine ⟨_, rfl, (by show 1 ≤ sizeLine; decide), fun l6 n6 => ?_⟩
      generalize hg : upd _ l6 _ = H6
      obtain ⟨s6, g6⟩ := upd_new hg n6
      clear hg
      refine ⟨_, rfl, LET, rfl, fun D9 hD9 => ?_⟩
      refine lc_it (walk_str (z := LET)) (fun i H' => Same H6 H' ∧ H' D9 = some (.lst (((LET.cps.toList.take i).map (tl x9)).map V.str)))
        ⟨same_upd hD9, upd_same⟩ (fun _ _ _ _ => trivial) ?_ ?_
      · rintro j y H7 H8 hj ⟨sm, hZ⟩ ⟨rfl, c, hc, rfl⟩
        have hc' : LET.cps.toList[j]? = some c := by rw [Array.getElem?_toList]; exact hc
        refine ⟨rfl, ?_⟩
        dsimp only [tYes]
        refine iteT ?_
        have n8 := nm2.2.1
        have n7 : (cutS x9 none (some 7)).length ≤ 8 := by
          rw [show (some 7 : Option Int) = some ((7 : Nat) : Int) from rfl, cut_some]
          show (x9.cps.toList.take (min 7 x9.length)).toArray.size ≤ 8
          rw [List.size_toArray, List.length_take]
          omega
        refine ⟨_, rfl, 7, rfl, x9, rfl, le200 (by omega), _, rfl, _, _, rfl, rfl, (by show (cutS x9 none (some 7)).length + 1 ≤ sizeLine; exact le200 (by omega)), _, hZ, ?_, same_upd2 sm hD9, ?_⟩
        · rw [List.length_map, List.length_map, List.length_take]
          have : LET.cps.size = 26 := by decide +kernel
          exact small200 (by omega)
        · rw [upd_same, List.take_add_one, hc', List.map_append, List.map_append]
          rfl
      rintro H7 ⟨sm7, hZ⟩
      rw [List.take_of_length_le (by rw [Array.length_toList]; exact Nat.le_refl _)] at hZ
      refine ⟨l6, D9, _, _, rfl, rfl, sm7 _ _ g6, hZ, ?_, fun p hp => ?_⟩
      · rw [List.length_map, List.length_map, show LET.cps.toList.length = 26 by decide +kernel]
        exact le200 (show 1 + 26 ≤ 10000 by decide)
      generalize hg : upd _ p _ = H8
      obtain ⟨s8, hT⟩ := upd_new hg hp
      clear hg
      have hT : H8 p = some (.lst ((triesOf x9).map V.str)) := hT
      have s48 := s6.trans (sm7.trans s8)
      have hu := s48 _ _ hu
      have R := R.same s48
      have b08 := b05.trans (But.of s48)
      clear g6 hZ
      -- the first that is not used
      refine ⟨_, rfl, p, rfl, ⟨_, SqL.of hT⟩, fun D hD => ?_⟩
      refine lc_it (walk_list (K := K) (a := p) (xs := (triesOf x9).map V.str)) (fun i H' => Same H8 H' ∧ H' D = some (.lst ((((triesOf x9).take i).filter (fun y => decide (y ∉ us))).map V.str)))
        ⟨same_upd hD, upd_same⟩ (fun i H' _ h => SqL.of (h.1 _ _ hT)) ?_ ?_
      · rintro j y H9 H10 hj ⟨sm, hZ⟩ ⟨rfl, hy⟩
        rw [List.getElem?_map] at hy
        obtain ⟨z, hz, rfl⟩ := Option.map_eq_some_iff.mp hy
        refine ⟨rfl, ?_⟩
        refine ⟨_, rfl, _, rfl, ua, _, rfl, .inl (SqL.of (sm _ _ hu)), rfl, flat_strs _, _, rfl, ite2 (fun c8 => ?_) (fun c8 => ?_)⟩
        · have c8' : (!inV (.str z) (us.map V.str)) = true := c8
          rw [inV_strs] at c8'
          have nz : z ∉ us := fun w => by
            rw [decide_eq_true w] at c8'
            cases c8'
          refine ⟨_, rfl, _, hZ, ?_, same_upd2 sm hD, ?_⟩
          · rw [List.length_map]
            refine small200 (Nat.le_trans (List.length_filter_le _ _) ?_)
            rw [List.length_take]
            have : (triesOf x9).length = 27 := by
              show (LET.cps.toList.map (tl x9)).length + 1 = 27
              rw [List.length_map, show LET.cps.toList.length = 26 by decide +kernel]
            omega
          · rw [upd_same, List.take_add_one, hz, List.filter_append, List.map_append]
            show some (HO.lst _) = some (HO.lst (_ ++ (List.filter _ [z]).map V.str))
            rw [List.filter_cons_of_pos (by exact decide_eq_true nz)]
            rfl
        · have c8' : ¬ (!inV (.str z) (us.map V.str)) = true := c8
          rw [inV_strs] at c8'
          have nz : z ∈ us := by
            cases w : decide (z ∈ us) with
            | true => exact of_decide_eq_true w
            | false => exact absurd (by rw [w]; rfl) c8'
          refine ⟨sm, ?_⟩
          rw [hZ, List.take_add_one, hz, List.filter_append]
          show some (HO.lst _) = some (HO.lst ((_ ++ List.filter _ [z]).map V.str))
          rw [List.filter_cons_of_neg (by simpa using nz), List.filter_nil, List.append_nil]
      rintro H9 ⟨s9, hZ⟩
      rw [List.length_map, List.take_of_length_le (Nat.le_refl _)] at hZ
      obtain ⟨z, zs, ez⟩ := tries_out (x := x9) (xs := us) (by omega)
      rw [ez] at hZ
      have mz : z ∈ (triesOf x9).filter (fun y => decide (y ∉ us)) := by rw [ez]; exact List.mem_cons_self
      have nz := tries_nm nm2 z (List.mem_filter.mp mz).1
      exact ⟨D, _, 0, .str z, rfl, rfl, SqL.of hZ, atI_nat (j := 0) rfl, q _ z (b08.trans (But.of s9)) (R.same s9) nz (by simpa using (List.mem_filter.mp mz).2)⟩
end
end My

namespace My
open PySem PySem.Spec PyProof.Rows L2 Gy Xl Xs Xt Xo Xp
/-! ### hosts -/
structure HS where
  nm : Str
  lk : List Str
  lg : List PyData
  jn : Option (List Str × Nat)
  sg : Str
  qu : List PyData
  an : List PyData
/-- where its parts lie -/
structure HA where
  Lk : Addr
  Ll : Addr
  Lq : Addr
  La : Addr
  jv : V
  dx : Addr
def Jnd (H : Hp) (v : V) : Option (List Str × Nat) → Prop
  | none => v = .non
  | some (xs, c) => ∃ t pa, v = .ref t ∧ Tz H t [.ref pa, .int (c : Int)] ∧ Tz H pa (xs.map V.str)
structure Hst (K : PySem.W.Frag) (C : Addr) (H : Hp) (h : Addr) (st : HS) (ad : HA) : Prop where
  at_ : H h = some (.ins C ad.dx [("own_name", .str st.nm), ("linked", .ref ad.Lk), ("logged", .ref ad.Ll), ("joined", ad.jv), ("stage", .str st.sg), ("queued", .ref ad.Lq), ("finished", .ref ad.La)])
  lk : H ad.Lk = some (.lst (st.lk.map V.str))
  lg : ∃ vs, H ad.Ll = some (.lst vs) ∧ Dns K (fz H) vs st.lg
  jn : Jnd (fz H) ad.jv st.jn
  qu : ∃ vs, H ad.Lq = some (.lst vs) ∧ Dns K (fz H) vs st.qu
  an : ∃ vs, H ad.La = some (.lst vs) ∧ Dns K (fz H) vs st.an
  sep : ad.Lk ≠ ad.Ll ∧ ad.Lk ≠ ad.Lq ∧ ad.Lk ≠ ad.La ∧ ad.Ll ≠ ad.Lq ∧ ad.Ll ≠ ad.La ∧ ad.Lq ≠ ad.La
structure Ch (K : PySem.W.Frag) (C : Addr) : Prop where
  cl : Cls K C
  n1 : PySem.W.findIn K (.ref C) "own_name" = some none
  n2 : PySem.W.findIn K (.ref C) "linked" = some none
  n3 : PySem.W.findIn K (.ref C) "logged" = some none
  n4 : PySem.W.findIn K (.ref C) "joined" = some none
  n5 : PySem.W.findIn K (.ref C) "stage" = some none
  n6 : PySem.W.findIn K (.ref C) "queued" = some none
  n7 : PySem.W.findIn K (.ref C) "finished" = some none
theorem Jnd.same {H H' : Hp} {v : V} {j : Option (List Str × Nat)} (h : Jnd H v j) (s : Same H H') : Jnd H' v j := by
  match j, h with
  | none, h => exact h
  | some (xs, c), ⟨t, pa, e, a, b⟩ => exact ⟨t, pa, e, a.same s, b.same s⟩
theorem Hst.same {K : PySem.W.Frag} {C : Addr} {H H' : Hp} {h : Addr} {st : HS} {ad : HA} (x : Hst K C H h st ad) (s : Same H H') : Hst K C H' h st ad := by
  obtain ⟨v1, a1, b1⟩ := x.lg
  obtain ⟨v2, a2, b2⟩ := x.qu
  obtain ⟨v3, a3, b3⟩ := x.an
  have f := fz_keep (FzK.of s)
  exact ⟨s _ _ x.at_, s _ _ x.lk, ⟨v1, s _ _ a1, b1.same f⟩, x.jn.same f, ⟨v2, s _ _ a2, b2.same f⟩, ⟨v3, s _ _ a3, b3.same f⟩, x.sep⟩
section
variable {P : Program} {w : World} {K : PySem.W.Frag} {mg : Str → Option Value} {base : Heap} {H : Hp} {C : Addr}
/-- all but one address stands -/
def Off (h : Addr) (H H' : Hp) : Prop := ∀ x o, H x = some o → x ≠ h → H' x = some o
theorem sq_off {h a dx : Addr} {H H' : Hp} {fs : List (Str × V)} {xs : List V} (s : SqL K H a xs) (hh : H h = some (.ins C dx fs)) (o : Off h H H') : SqL K H' a xs := by
  rcases s with (s | ⟨u, s⟩) | s
  · exact .inl (.inl (o _ _ s (ne_of s hh (fun z => nomatch z))))
  · exact .inl (.inr ⟨u, o _ _ s (ne_of s hh (fun z => nomatch z))⟩)
  · exact .inr s
theorem st_off {h a dx : Addr} {H H' : Hp} {fs : List (Str × V)} {xs : List V} (s : SqT K H a xs) (hh : H h = some (.ins C dx fs)) (o : Off h H H') : SqT K H' a xs := by
  rcases s with (s | ⟨u, s⟩) | s
  · exact .inl (.inl (o _ _ s (ne_of s hh (fun z => nomatch z))))
  · exact .inl (.inr ⟨u, o _ _ s (ne_of s hh (fun z => nomatch z))⟩)
  · exact .inr s
theorem Off.refl (h : Addr) (H : Hp) : Off h H H := fun _ _ e _ => e
theorem Off.upd {h : Addr} {H H' : Hp} {u : HO} (o : Off h H H') : Off h H (L2.upd H' h u) := fun x v e n => by
  rw [upd_ne n]
  exact o x v e n
theorem Off.new {h l : Addr} {H H' : Hp} {u : HO} (o : Off h H H') (n : H' l = none) : Off h H (L2.upd H' l u) := fun x v e nx => by
  rw [upd_ne (ne_of_none (o x v e nx) n)]
  exact o x v e nx
theorem Off.none {h l dx : Addr} {H H' : Hp} {fs' : List (Str × V)} (o : Off h H H') (h1 : H' h = some (.ins C dx fs')) (n : H' l = none) : H l = none := by
  cases z : H l with
  | none => rfl
  | some u =>
    have ne : l ≠ h := fun e => by rw [e, h1] at n; cases n
    rw [o _ _ z ne] at n
    cases n
theorem FzK.off {h dx : Addr} {H H' : Hp} {fs : List (Str × V)} (hh : H h = some (.ins C dx fs)) (o : Off h H H') : FzK H H' := fun b ob u e => o b _ e (ne_of e hh (fun z => nomatch z))
def spHInit (K : PySem.W.Frag) (C : Addr) : Sp := fun vs H Q _ => ∃ (h l g dx : Addr) (nm : Str) (xs : List Str) (us : List V) (lg : List PyData), vs = [.ref h, .str nm, .ref l, .ref g] ∧ H h = some (.ins C dx []) ∧ (SqL K H l (xs.map V.str) ∨ SqT K H l (xs.map V.str)) ∧ xs.length < 64 ∧ SqL K H g us ∧ Dns K (fz H) us lg ∧
  ∀ H' ad ys, Off h H H' → FzK H H' → Hst K C H' h ⟨nm, ys, lg, none, "free", [], []⟩ ad → sortedS ys = true → ys.Nodup → (∀ x, x ∈ ys ↔ x ∈ xs) → H ad.Lk = none → H ad.Ll = none → H ad.Lq = none → H ad.La = none → Q .non H'
theorem ok_hinit {f : Addr} {fd : FuncData} (F : Fun K "__init__" "Host.__init__" m_init f fd) (Y : Bn mg) (T : Ch K C) : FnOk P w K mg base CX0 1 f fd ["self", "name", "links", "log"] (spHInit K C) := by
  refine F.ok scm_init (fun vs H Q E h => ?_) (fun cdv A outer s H vs Q E hr h => ?_)
  · obtain ⟨h, l, g, dx, nm, xs, us, lg, rfl, _⟩ := h
    rfl
  · obtain ⟨h, l, g, dx, nm, xs, us, lg, rfl, hh, sq, few, hg, dg, q⟩ := h
    refine ⟨_, (pss_cons (ps_fld (pv 0) (pv 1) rfl)
 (pss_cons (ps_fld (pv 0) (pe_srtSet (by rfl) Y.sorted (by rfl) Y.set (pv 2)) rfl)
 (pss_cons (ps_fld (pv 0) (pe_callTy call_list_of (by rfl) Y.list (by decide +kernel) (pa_cons (pv 3) pa_nil)) rfl)
 (pss_cons (ps_fld (pv 0) pe_non rfl)
 (pss_cons (ps_fld (pv 0) pe_str rfl)
 (pss_cons (ps_fld (pv 0) (pe_lst pa_nil) rfl)
 (pss_one (ps_fld (pv 0) (pe_lst pa_nil) rfl)))))))), ?_⟩
    refine ⟨_, rfl, _, rfl, h, C, dx, [], rfl, hh, T.cl, T.n1, by decide, ?_⟩
    have o1 : Off h H (upd H h (.ins C dx [("own_name", .str nm)])) := (Off.refl h H).upd
    have g1 : (upd H h (.ins C dx [("own_name", .str nm)])) h = some (.ins C dx [("own_name", .str nm)]) := upd_same
    show tSeq _ _ _ _ (upd H h (.ins C dx [("own_name", .str nm)]))
    generalize upd H h (.ins C dx [("own_name", .str nm)]) = H1 at o1 g1 ⊢
    refine ⟨_, rfl, l, xs, rfl, sq.imp (fun z => sq_off z hh o1) (fun z => st_off z hh o1), few, fun ys Lk srt nd mem nk => ?_⟩
    have o2 := o1.new (u := .lst (ys.map V.str)) nk
    have g2 : (upd H1 Lk (.lst (ys.map V.str))) h = some (.ins C dx [("own_name", .str nm)]) := same_upd nk _ _ g1
    have k2 : (upd H1 Lk (.lst (ys.map V.str))) Lk = some (.lst (ys.map V.str)) := upd_same
    have nk0 := o1.none g1 nk
    generalize upd H1 Lk (.lst (ys.map V.str)) = H2 at o2 g2 k2 ⊢
    refine ⟨_, rfl, h, C, dx, _, rfl, g2, T.cl, T.n2, (by show 1 < 1000; decide), ?_⟩
    show tSeq _ _ _ _ (upd H2 h (.ins C dx [("own_name", .str nm), ("linked", .ref Lk)]))
    have hk : Lk ≠ h := ne_of k2 g2 (fun z => nomatch z)
    have o3 := o2.upd (u := .ins C dx [("own_name", .str nm), ("linked", .ref Lk)])
    have g3 : (upd H2 h (.ins C dx [("own_name", .str nm), ("linked", .ref Lk)])) h = _ := upd_same
    have k3 := (upd_ne (H := H2) (o := .ins C dx [("own_name", .str nm), ("linked", .ref Lk)]) hk).trans k2
    generalize upd H2 h (.ins C dx [("own_name", .str nm), ("linked", .ref Lk)]) = H3 at o3 g3 k3 ⊢
    refine ⟨_, rfl, g, us, rfl, .inl (sq_off hg hh o3), fun Ll nl => ?_⟩
    have nl0 := o3.none g3 nl
    have o4 := o3.new (u := .lst us) nl
    have s4 := same_upd (o := .lst us) nl
    have g4 := s4 _ _ g3
    have k4 := s4 _ _ k3
    have l4 : (upd H3 Ll (.lst us)) Ll = some (.lst us) := upd_same
    generalize upd H3 Ll (.lst us) = H4 at o4 g4 k4 l4 ⊢
    refine ⟨_, rfl, h, C, dx, _, rfl, g4, T.cl, T.n3, (by show 2 < 1000; decide), ?_⟩
    show tSeq _ _ _ _ (upd H4 h (.ins C dx [("own_name", .str nm), ("linked", .ref Lk), ("logged", .ref Ll)]))
    have hl : Ll ≠ h := ne_of l4 g4 (fun z => nomatch z)
    refine ⟨_, rfl, h, C, dx, _, rfl, upd_same, T.cl, T.n4, (by show 3 < 1000; decide), ?_⟩
    rw [upd_upd]
    refine ⟨_, rfl, h, C, dx, _, rfl, upd_same, T.cl, T.n5, (by show 4 < 1000; decide), ?_⟩
    rw [upd_upd]
    show tSeq _ _ _ _ (upd H4 h (.ins C dx [("own_name", .str nm), ("linked", .ref Lk), ("logged", .ref Ll), ("joined", .non), ("stage", .str "free")]))
    have o5 := o4.upd (u := .ins C dx [("own_name", .str nm), ("linked", .ref Lk), ("logged", .ref Ll), ("joined", .non), ("stage", .str "free")])
    have g5 : (upd H4 h (.ins C dx [("own_name", .str nm), ("linked", .ref Lk), ("logged", .ref Ll), ("joined", .non), ("stage", .str "free")])) h = _ := upd_same
    have k5 := (upd_ne (H := H4) (o := .ins C dx [("own_name", .str nm), ("linked", .ref Lk), ("logged", .ref Ll), ("joined", .non), ("stage", .str "free")]) hk).trans k4
    have l5 := (upd_ne (H := H4) (o := .ins C dx [("own_name", .str nm), ("linked", .ref Lk), ("logged", .ref Ll), ("joined", .non), ("stage", .str "free")]) hl).trans l4
    generalize upd H4 h (.ins C dx [("own_name", .str nm), ("linked", .ref Lk), ("logged", .ref Ll), ("joined", .non), ("stage", .str "free")]) = H5 at o5 g5 k5 l5 ⊢
    refine ⟨Nat.zero_le _, fun Lq nq => ?_⟩
    have nq0 := o5.none g5 nq
    have s6 := same_upd (o := .lst []) nq
    have o6 := o5.new (u := .lst []) nq
    have g6 := s6 _ _ g5
    have k6 := s6 _ _ k5
    have l6 := s6 _ _ l5
    have q6 : (upd H5 Lq (.lst [])) Lq = some (.lst []) := upd_same
    generalize upd H5 Lq (.lst []) = H6 at o6 g6 k6 l6 q6 ⊢
    refine ⟨_, rfl, h, C, dx, _, rfl, g6, T.cl, T.n6, (by show 5 < 1000; decide), ?_⟩
    dsimp only
    rw [show putF "queued" (V.ref Lq) [("own_name", V.str nm), ("linked", .ref Lk), ("logged", .ref Ll), ("joined", .non), ("stage", .str "free")] = ([("own_name", .str nm), ("linked", .ref Lk), ("logged", .ref Ll), ("joined", .non), ("stage", .str "free"), ("queued", .ref Lq)] : List (Str × V)) from rfl]
    have hq : Lq ≠ h := ne_of q6 g6 (fun z => nomatch z)
    have o7 := o6.upd (u := .ins C dx [("own_name", .str nm), ("linked", .ref Lk), ("logged", .ref Ll), ("joined", .non), ("stage", .str "free"), ("queued", .ref Lq)])
    have g7 : (upd H6 h (.ins C dx [("own_name", .str nm), ("linked", .ref Lk), ("logged", .ref Ll), ("joined", .non), ("stage", .str "free"), ("queued", .ref Lq)])) h = _ := upd_same
    have k7 := (upd_ne (H := H6) (o := .ins C dx [("own_name", .str nm), ("linked", .ref Lk), ("logged", .ref Ll), ("joined", .non), ("stage", .str "free"), ("queued", .ref Lq)]) hk).trans k6
    have l7 := (upd_ne (H := H6) (o := .ins C dx [("own_name", .str nm), ("linked", .ref Lk), ("logged", .ref Ll), ("joined", .non), ("stage", .str "free"), ("queued", .ref Lq)]) hl).trans l6
    have q7 := (upd_ne (H := H6) (o := .ins C dx [("own_name", .str nm), ("linked", .ref Lk), ("logged", .ref Ll), ("joined", .non), ("stage", .str "free"), ("queued", .ref Lq)]) hq).trans q6
    generalize upd H6 h (.ins C dx [("own_name", .str nm), ("linked", .ref Lk), ("logged", .ref Ll), ("joined", .non), ("stage", .str "free"), ("queued", .ref Lq)]) = H7 at o7 g7 k7 l7 q7 ⊢
    refine ⟨Nat.zero_le _, fun La na => ?_⟩
    have na0 := o7.none g7 na
    have s8 := same_upd (o := .lst []) na
    have o8 := o7.new (u := .lst []) na
    have g8 := s8 _ _ g7
    have k8 := s8 _ _ k7
    have l8 := s8 _ _ l7
    have q8 := s8 _ _ q7
    have a8 : (upd H7 La (.lst [])) La = some (.lst []) := upd_same
    generalize upd H7 La (.lst []) = H8 at o8 g8 k8 l8 q8 a8 ⊢
    refine ⟨_, rfl, h, C, dx, _, rfl, g8, T.cl, T.n7, (by show 6 < 1000; decide), ?_⟩
    have ha : La ≠ h := ne_of a8 g8 (fun z => nomatch z)
    show Q .non (upd H8 h (.ins C dx [("own_name", .str nm), ("linked", .ref Lk), ("logged", .ref Ll), ("joined", .non), ("stage", .str "free"), ("queued", .ref Lq), ("finished", .ref La)]))
    have o9 := o8.upd (u := .ins C dx [("own_name", .str nm), ("linked", .ref Lk), ("logged", .ref Ll), ("joined", .non), ("stage", .str "free"), ("queued", .ref Lq), ("finished", .ref La)])
    have fk := FzK.off hh o9
    refine q _ ⟨Lk, Ll, Lq, La, .non, dx⟩ ys o9 fk ⟨upd_same, (upd_ne hk).trans k8, ⟨us, (upd_ne hl).trans l8, dg.same (fz_keep fk)⟩, rfl, ⟨[], (upd_ne hq).trans q8, .nil⟩, ⟨[], (upd_ne ha).trans a8, .nil⟩, ⟨ne_of_none k3 nl, ne_of_none k5 nq, ne_of_none k7 na, ne_of_none l5 nq, ne_of_none l7 na, ne_of_none q7 na⟩⟩ srt nd mem nk0 nl0 nq0 na0
end
end My

namespace My
open PySem PySem.Spec PyProof.Rows L2
/-! ### a list of texts has one sorted arrangement -/
def leS (a b : Str) : Prop := a.cps.toList ≤ b.cps.toList
theorem leS_of {a b : Str} (h : ltCps b.cps.toList a.cps.toList = false) : leS a b := by
  rw [ltCps_eq] at h
  exact List.not_lt.mp (of_decide_eq_false h)
theorem rise_all : ∀ {r : List Str} {p : Str}, risingS p r = true → (∀ x ∈ r, leS p x) ∧ r.Pairwise leS
  | [], _, _ => ⟨fun _ z => (nomatch z), List.Pairwise.nil⟩
  | x :: r, p, h => by
    have h2 : (!ltCps x.cps.toList p.cps.toList) = true ∧ risingS x r = true := by simpa only [risingS, Bool.and_eq_true] using h
    obtain ⟨a, b⟩ := rise_all h2.2
    have px : leS p x := leS_of (by simpa using h2.1)
    refine ⟨fun y hy => ?_, List.Pairwise.cons a b⟩
    rcases List.mem_cons.mp hy with rfl | hy
    · exact px
    · exact List.le_trans px (a y hy)
theorem sorted_pw {ys : List Str} (h : sortedS ys = true) : ys.Pairwise leS := by
  cases ys with
  | nil => exact List.Pairwise.nil
  | cons x r =>
    obtain ⟨a, b⟩ := rise_all (show risingS x r = true from h)
    exact List.Pairwise.cons a b
theorem leS_anti {a b : Str} (h1 : leS a b) (h2 : leS b a) : a = b := by
  have e := List.le_antisymm h1 h2
  cases a with
  | mk ca =>
    cases b with
    | mk cb =>
      have e' : ca.toList = cb.toList := e
      rw [Array.toList_inj.mp e']
theorem sort_one : ∀ {ys zs : List Str}, ys.Perm zs → ys.Pairwise leS → zs.Pairwise leS → ys = zs
  | [], zs, p, _, _ => (List.Perm.eq_nil p.symm).symm
  | y :: ys, [], p, _, _ => absurd (List.Perm.eq_nil p) (by simp)
  | y :: ys, z :: zs, p, h1, h2 => by
    have e : y = z := by
      have m1 : y ∈ z :: zs := p.mem_iff.mp List.mem_cons_self
      have m2 : z ∈ y :: ys := p.mem_iff.mpr List.mem_cons_self
      rcases List.mem_cons.mp m1 with e | m1
      · exact e
      · rcases List.mem_cons.mp m2 with e | m2
        · exact e.symm
        · exact leS_anti ((List.pairwise_cons.mp h1).1 z m2) ((List.pairwise_cons.mp h2).1 y m1)
    subst e
    rw [sort_one (List.perm_cons y |>.mp p) (List.pairwise_cons.mp h1).2 (List.pairwise_cons.mp h2).2]
theorem sort_uniq {ys zs ls : List Str} (p1 : ys.Perm ls) (s1 : sortedS ys = true) (p2 : zs.Perm ls) (s2 : sortedS zs = true) : ys = zs := sort_one (p1.trans p2.symm) (sorted_pw s1) (sorted_pw s2)
end My

namespace My
open PySem PySem.Spec PyProof.Rows L2 Gy Xl Xs Xt
/-! ### the one sorted arrangement of some texts -/
def ins (x : Str) : List Str → List Str
  | [] => [x]
  | y :: ys => if y.cps.toList < x.cps.toList then y :: ins x ys else x :: y :: ys
def srt : List Str → List Str
  | [] => []
  | x :: xs => ins x (srt xs)
theorem ins_perm (x : Str) : ∀ ys, (ins x ys).Perm (x :: ys)
  | [] => List.Perm.refl _
  | y :: ys => by
    unfold ins
    split
    · exact ((ins_perm x ys).cons y).trans (List.Perm.swap x y ys)
    · exact List.Perm.refl _
theorem srt_perm : ∀ xs, (srt xs).Perm xs
  | [] => List.Perm.refl _
  | x :: xs => (ins_perm x (srt xs)).trans ((srt_perm xs).cons x)
theorem ins_pw {x : Str} : ∀ {ys : List Str}, ys.Pairwise leS → (ins x ys).Pairwise leS
  | [], _ => List.pairwise_singleton _ _
  | y :: ys, h => by
    obtain ⟨h1, h2⟩ := List.pairwise_cons.mp h
    unfold ins
    split
    · rename_i c
      refine List.Pairwise.cons (fun z hz => ?_) (ins_pw h2)
      rcases List.mem_cons.mp ((ins_perm x ys).mem_iff.mp hz) with rfl | hz
      · exact List.le_of_lt c
      · exact h1 z hz
    · rename_i c
      have c' : leS x y := List.not_lt.mp c
      refine List.Pairwise.cons (fun z hz => ?_) h
      rcases List.mem_cons.mp hz with rfl | hz
      · exact c'
      · exact List.le_trans c' (h1 z hz)
theorem srt_pw : ∀ xs, (srt xs).Pairwise leS
  | [] => List.Pairwise.nil
  | x :: xs => ins_pw (srt_pw xs)
theorem srt_of {ys xs : List Str} (p : ys.Perm xs) (s : sortedS ys = true) : ys = srt xs := sort_one (p.trans (srt_perm xs).symm) (sorted_pw s) (srt_pw xs)
theorem srt_congr {xs ys : List Str} (p : xs.Perm ys) : srt xs = srt ys := sort_one ((srt_perm xs).trans (p.trans (srt_perm ys).symm)) (srt_pw xs) (srt_pw ys)
theorem srt_srt (xs : List Str) : srt (srt xs) = srt xs := srt_congr (srt_perm xs)
theorem srt_mem {xs : List Str} {x : Str} : x ∈ srt xs ↔ x ∈ xs := (srt_perm xs).mem_iff
theorem srt_len (xs : List Str) : (srt xs).length = xs.length := (srt_perm xs).length_eq
theorem srt_nd {xs : List Str} : (srt xs).Nodup ↔ xs.Nodup := (srt_perm xs).nodup_iff
end My

namespace My
open PySem PySem.Spec PyProof.Rows L2 Gy Xl Xs Xt
/-! ### what a control item makes a host do -/
structure Res where
  sends : List (Str × Str)
  ph : Str
  ad : Option Str
  rm : Option Str
  oc : Option Str
def cutB (xs : List Str) (c j : Nat) : Option Str := if j = c + 1 then some (xs.getD c "") else none
def askS (xs : List Str) (c j : Nat) : Res := if j + 1 < xs.length then ⟨[(xs.getD (j + 1) "", "ask")], "reserved", none, none, none⟩ else ⟨[(xs.getD (j - 1) "", "yes")], "turned", some (xs.getD 0 ""), cutB xs c j, none⟩
def noS (xs : List Str) (_ j : Nat) : Res := if j = 0 then ⟨[], "free", none, none, some "refused"⟩ else ⟨[(xs.getD (j - 1) "", "no")], "free", none, none, none⟩
def firstS (xs : List Str) (c : Nat) : Res := if c = 0 then ⟨[(xs.getD 1 "", "go")], "free", some (xs.getD (xs.length - 1) ""), some (xs.getD 1 ""), some "done"⟩ else ⟨[(xs.getD 1 "", "go")], "turned", some (xs.getD (xs.length - 1) ""), none, none⟩
def yesS (xs : List Str) (c j : Nat) : Res := if j = 0 then firstS xs c else ⟨[(xs.getD (j - 1) "", "yes")], if j ≤ c then "reserved" else "turned", none, cutB xs c j, none⟩
def goS (xs : List Str) (c j : Nat) : Res := if j < c then ⟨[(xs.getD (j + 1) "", "go")], "turned", none, none, none⟩ else if j = c then ⟨[(xs.getD (j + 1) "", "go"), (xs.getD (j - 1) "", "back")], "free", none, some (xs.getD (j + 1) ""), none⟩
  else if j + 1 < xs.length then ⟨[(xs.getD (j + 1) "", "go")], "free", none, none, none⟩ else ⟨[], "free", none, none, none⟩
def backS (xs : List Str) (_ j : Nat) : Res := if j = 0 then ⟨[], "free", none, none, some "done"⟩ else ⟨[(xs.getD (j - 1) "", "back")], "free", none, none, none⟩
def recv (xs : List Str) (c j : Nat) (kd : Str) : Bool := if kd = "back" then decide (j < c) else if j = 0 then decide (kd = "no" ∨ kd = "yes") else decide (j + 1 < xs.length) || decide (kd = "ask" ∨ kd = "go")
/-- its pairs stand at ts -/
def Prs (H : Hp) : List Addr → List (Str × Str) → Prop
  | [], [] => True
  | t :: ts, p :: ps => Tz H t [.str p.1, .str p.2] ∧ Prs H ts ps
  | _, _ => False
theorem Prs.same {H H' : Hp} (s : Same H H') : ∀ {ts : List Addr} {ps : List (Str × Str)}, Prs H ts ps → Prs H' ts ps
  | [], [], _ => trivial
  | _ :: _, _ :: _, h => ⟨h.1.same s, Prs.same s h.2⟩
/-- such a result stands at t, its list at L -/
def At (H : Hp) (t L : Addr) (r : Res) : Prop := Tz H t [.ref L, .str r.ph, optV r.ad, optV r.rm, optV r.oc] ∧ ∃ ts, H L = some (.lst (ts.map V.ref)) ∧ Prs H ts r.sends
theorem at0 {H H1 : Hp} {t L : Addr} {o : HO} {ph : Str} {ad rm oc : Option Str} (_ : Same H H1) (nL : H1 L = none) (st : Same (upd H1 L (.lst [])) (upd (upd H1 L (.lst [])) t o)) (tz : Tz (upd (upd H1 L (.lst [])) t o) t [.ref L, .str ph, optV ad, optV rm, optV oc]) :
    At (upd (upd H1 L (.lst [])) t o) t L ⟨[], ph, ad, rm, oc⟩ := ⟨tz, [], st _ _ upd_same, trivial⟩
theorem at1 {H1 : Hp} {t t1 L : Addr} {o : HO} {x k ph : Str} {ad rm oc : Option Str} (z1 : Tz H1 t1 [.str x, .str k]) (nL : H1 L = none) (st : Same (upd H1 L (.lst [.ref t1])) (upd (upd H1 L (.lst [.ref t1])) t o)) (tz : Tz (upd (upd H1 L (.lst [.ref t1])) t o) t [.ref L, .str ph, optV ad, optV rm, optV oc]) :
    At (upd (upd H1 L (.lst [.ref t1])) t o) t L ⟨[(x, k)], ph, ad, rm, oc⟩ := ⟨tz, [t1], st _ _ upd_same, (z1.same (same_upd nL)).same st, trivial⟩
theorem at2 {H1 : Hp} {t t1 t2 L : Addr} {o : HO} {x k x2 k2 ph : Str} {ad rm oc : Option Str} (z1 : Tz H1 t1 [.str x, .str k]) (z2 : Tz H1 t2 [.str x2, .str k2]) (nL : H1 L = none) (st : Same (upd H1 L (.lst [.ref t1, .ref t2])) (upd (upd H1 L (.lst [.ref t1, .ref t2])) t o))
    (tz : Tz (upd (upd H1 L (.lst [.ref t1, .ref t2])) t o) t [.ref L, .str ph, optV ad, optV rm, optV oc]) :
    At (upd (upd H1 L (.lst [.ref t1, .ref t2])) t o) t L ⟨[(x, k), (x2, k2)], ph, ad, rm, oc⟩ := ⟨tz, [t1, t2], st _ _ upd_same, (z1.same (same_upd nL)).same st, (z2.same (same_upd nL)).same st, trivial⟩
theorem none_of {H H1 : Hp} {L : Addr} (s : Same H H1) (n : H1 L = none) : H L = none := by
  cases z : H L with
  | none => rfl
  | some o =>
    rw [s _ _ z] at n
    cases n
section
variable {P : Program} {w : World} {K : PySem.W.Frag} {mg : Str → Option Value} {base : Heap} {H : Hp}
/-- a host of a relink -/
structure On (H : Hp) (ra pa : Addr) (xs : List Str) (c j : Nat) : Prop where
  ra : Tz H ra [.ref pa, .int (c : Int)]
  pa : Tz H pa (xs.map V.str)
  l3 : 3 ≤ xs.length
  cl : c + 2 ≤ xs.length
  jl : j < xs.length
theorem On.same {H H' : Hp} {ra pa : Addr} {xs : List Str} {c j : Nat} (h : On H ra pa xs c j) (s : Same H H') : On H' ra pa xs c j := ⟨h.ra.same s, h.pa.same s, h.l3, h.cl, h.jl⟩
def spStep (g : List Str → Nat → Nat → Res) (pre : List Str → Nat → Nat → Prop) : Sp := fun vs H Q _ => ∃ (ra pa : Addr) (xs : List Str) (c j : Nat), vs = [.ref ra, .int (j : Int)] ∧ On H ra pa xs c j ∧ pre xs c j ∧
  ∀ H' t L, Same H H' → H L = none → At H' t L (g xs c j) → Q (.ref t) H'
theorem at_pred {xs : List Str} {j : Nat} (h : j < xs.length) (j0 : j ≠ 0) : atI (xs.map V.str) ((j : Int) - 1) = some (.str (xs.getD (j - 1) "")) := by
  rw [show (j : Int) - 1 = ((j - 1 : Nat) : Int) by omega]
  exact at_nat (i := j - 1) (by omega)
theorem at_succ {xs : List Str} {j : Nat} (h : j + 1 < xs.length) : atI (xs.map V.str) ((j : Int) + 1) = some (.str (xs.getD (j + 1) "")) := by
  rw [show (j : Int) + 1 = ((j + 1 : Nat) : Int) by omega]
  exact at_nat (i := j + 1) h
/-! the link that is cut behind a host -/
def spBehind : Sp := fun vs H Q _ => ∃ (ra pa : Addr) (xs : List Str) (c j : Nat), vs = [.ref ra, .int (j : Int)] ∧ On H ra pa xs c j ∧ Q (optV (cutB xs c j)) H
theorem ok_behind {f : Addr} {fd : FuncData} (F : Fun K "link_cut_behind" "link_cut_behind" s_link_cut_behind f fd) (Y : Bn mg) : FnOk P w K mg base CX0 1 f fd ["relink", "at"] spBehind := by
  refine F.ok sc_link_cut_behind (fun vs H Q E h => ?_) (fun cdv A outer s H vs Q E hr h => ?_)
  · obtain ⟨ra, pa, xs, c, j, rfl, _⟩ := h
    rfl
  · obtain ⟨ra, pa, xs, c, j, rfl, on, q⟩ := h
    refine ⟨_, (pss_cons (ps_asg (pv 0) (pg_tup (by rfl) (pgs_cons (pg_name (i := 2) sc_link_cut_behind.nd rfl (Or.inl rfl)) (pgs_cons (pg_name (i := 3) sc_link_cut_behind.nd rfl (Or.inl rfl)) pgs_nil))))
 (pss_one (ps_ret (pe_ifExp (pt_cmpR op_eq (pv 1) (pe_op op_add (pv 3) pe_int) (nomark _)) (pe_ix ix_tup (pv 2) (pv 3) (fun _ _ => rfl)) pe_non)))), ?_⟩
    have cl := on.cl
    refine ⟨_, rfl, ra, _, rfl, on.ra.sq, rfl, _, _, rfl, _, _, rfl, rfl, ?_⟩
    refine ⟨_, rfl, _, rfl, _, _, rfl, rfl, rfl, _, rfl, ite2 (fun c1 => ?_) (fun c1 => ?_)⟩
    · have c1' : j = c + 1 := by
        have z := of_decide_eq_true c1
        injection z with z
        omega
      refine ⟨_, rfl, _, rfl, pa, _, _, _, rfl, rfl, on.pa.sq, at_nat (i := c) (by omega), ?_⟩
      unfold cutB at q
      rw [if_pos c1'] at q
      exact q
    · have c1' : ¬ j = c + 1 := fun z => c1 (decide_eq_true (by rw [z]; rfl))
      unfold cutB at q
      rw [if_neg c1'] at q
      exact q
theorem ok_askS {f : Addr} {fd : FuncData} (F : Fun K "ask_step" "ask_step" s_ask_step f fd) (Y : Bn mg) (G_link_cut_behind : Fk P w K mg base CX0 1 "link_cut_behind" ["relink", "at"] spBehind) :
    FnOk P w K mg base CX0 2 f fd ["relink", "at"] (spStep askS fun _ _ j => j ≠ 0) := by
  refine F.ok sc_ask_step (fun vs H Q E h => ?_) (fun cdv A outer s H vs Q E hr h => ?_)
  · obtain ⟨ra, pa, xs, c, j, rfl, _⟩ := h
    rfl
  · obtain ⟨ra, pa, xs, c, j, rfl, on, j0, q⟩ := h
    refine ⟨_, (pss_cons (ps_set (i := 2) sc_ask_step.nd rfl (.inl rfl) (pe_ix ix_tup (pv 0) pe_int (fun _ _ => rfl)))
 (pss_cons (ps_if (pt_cmpR op_lt (pv 1) (pe_op op_sub (pe_callB call_len_seq (by rfl) Y.len PySem.boot_len (pa_cons (pv 2) pa_nil)) pe_int) (nomark _))
 (pss_one (ps_ret (pe_tupZ (pa_cons (pe_lst (pa_cons (pe_tupZ (pa_cons (pe_ix ix_tup (pv 2) (pe_op op_add (pv 1) pe_int) (fun _ _ => rfl)) (pa_cons pe_str pa_nil))) pa_nil)) (pa_cons pe_str (pa_cons pe_non (pa_cons pe_non (pa_cons pe_non pa_nil))))))))
 pss_nil)
 (pss_one (ps_ret (pe_tupZ (pa_cons (pe_lst (pa_cons (pe_tupZ (pa_cons (pe_ix ix_tup (pv 2) (pe_op op_sub (pv 1) pe_int) (fun _ _ => rfl)) (pa_cons pe_str pa_nil))) pa_nil)) (pa_cons pe_str (pa_cons (pe_ix ix_tup (pv 2) pe_int (fun _ _ => rfl)) (pa_cons (pe_callF G_link_cut_behind (hr.mono (by decide)) (by rfl) pass0 (pa_cons (pv 0) (pa_cons (pv 1) pa_nil))) (pa_cons pe_non pa_nil)))))))))), ?_⟩
    have l3 := on.l3
    have jl := on.jl
    unfold askS at q
    refine ⟨_, rfl, ra, _, 0, _, rfl, rfl, on.ra.sq, atI_nat (j := 0) rfl, ?_⟩
    refine ⟨_, rfl, _, rfl, pa, _, rfl, .inr on.pa.sq, _, _, rfl, rfl, _, _, rfl, rfl, _, rfl, ?_⟩
    rw [List.length_map]
    refine ite2 (fun c1 => ?_) (fun c1 => ?_)
    · have c1' : j + 1 < xs.length := by
        have := of_decide_eq_true c1
        omega
      rw [if_pos c1'] at q
      refine ⟨_, rfl, _, rfl, _, _, rfl, rfl, pa, _, _, _, rfl, rfl, on.pa.sq, at_succ c1', (by show 2 ≤ sizeLine; decide), fun t1 o1 n1 s1 z1 => ?_⟩
      refine ⟨(by show 1 ≤ sizeLine; decide), fun L nL => ⟨(by show 5 ≤ sizeLine; decide), fun t o nt st tz => ?_⟩⟩
      exact q _ t L ((s1.trans (same_upd nL)).trans st) (none_of s1 nL) (at1 (ad := none) (rm := none) (oc := none) z1 nL st tz)
    · have c1' : ¬ j + 1 < xs.length := fun z => c1 (decide_eq_true (by omega))
      rw [if_neg c1'] at q
      refine ⟨_, rfl, _, rfl, _, _, rfl, rfl, pa, _, _, _, rfl, rfl, on.pa.sq, at_pred jl j0, (by show 2 ≤ sizeLine; decide), fun t1 o1 n1 s1 z1 => ?_⟩
      refine ⟨(by show 1 ≤ sizeLine; decide), fun L nL => ?_⟩
      have on2 := (on.same s1).same (same_upd (o := .lst [.ref t1]) nL)
      refine ⟨_, rfl, pa, _, 0, _, rfl, rfl, on2.pa.sq, at_nat (i := 0) (by omega), _, rfl, _, rfl, ra, pa, xs, c, j, rfl, on2, ?_⟩
      refine ⟨(by show 5 ≤ sizeLine; decide), fun t o nt st tz => ?_⟩
      exact q _ t L ((s1.trans (same_upd nL)).trans st) (none_of s1 nL) (at1 (ad := some _) (oc := none) z1 nL st tz)
theorem ok_noS {f : Addr} {fd : FuncData} (F : Fun K "no_step" "no_step" s_no_step f fd) (Y : Bn mg) : FnOk P w K mg base CX0 1 f fd ["relink", "at"] (spStep noS fun _ _ _ => True) := by
  refine F.ok sc_no_step (fun vs H Q E h => ?_) (fun cdv A outer s H vs Q E hr h => ?_)
  · obtain ⟨ra, pa, xs, c, j, rfl, _⟩ := h
    rfl
  · obtain ⟨ra, pa, xs, c, j, rfl, on, _, q⟩ := h
    refine ⟨_, (pss_cons (ps_if (pt_cmpR op_eq (pv 1) pe_int (nomark _))
 (pss_one (ps_ret (pe_tupZ (pa_cons (pe_lst pa_nil) (pa_cons pe_str (pa_cons pe_non (pa_cons pe_non (pa_cons pe_str pa_nil))))))))
 pss_nil)
 (pss_one (ps_ret (pe_tupZ (pa_cons (pe_lst (pa_cons (pe_tupZ (pa_cons (pe_ix ix_tup (pe_ix ix_tup (pv 0) pe_int (fun _ _ => rfl)) (pe_op op_sub (pv 1) pe_int) (fun _ _ => rfl)) (pa_cons pe_str pa_nil))) pa_nil)) (pa_cons pe_str (pa_cons pe_non (pa_cons pe_non (pa_cons pe_non pa_nil))))))))), ?_⟩
    have jl := on.jl
    unfold noS at q
    refine ⟨_, rfl, rfl, _, rfl, ite2 (fun c1 => ?_) (fun c1 => ?_)⟩
    · have c1' : j = 0 := by
        have z := of_decide_eq_true c1
        injection z with z
        omega
      rw [if_pos c1'] at q
      refine ⟨Nat.zero_le _, fun L nL => ⟨(by show 5 ≤ sizeLine; decide), fun t o nt st tz => ?_⟩⟩
      exact q _ t L ((same_upd nL).trans st) nL (at0 (ad := none) (rm := none) (oc := some _) (Same.refl _) nL st tz)
    · have c1' : ¬ j = 0 := fun z => c1 (decide_eq_true (by rw [z]; rfl))
      rw [if_neg c1'] at q
      refine ⟨_, rfl, ra, _, 0, _, rfl, rfl, on.ra.sq, atI_nat (j := 0) rfl, _, rfl, _, _, rfl, rfl, pa, _, _, _, rfl, rfl, on.pa.sq, at_pred jl c1', (by show 2 ≤ sizeLine; decide), fun t1 o1 n1 s1 z1 => ?_⟩
      refine ⟨(by show 1 ≤ sizeLine; decide), fun L nL => ⟨(by show 5 ≤ sizeLine; decide), fun t o nt st tz => ?_⟩⟩
      exact q _ t L ((s1.trans (same_upd nL)).trans st) (none_of s1 nL) (at1 (ad := none) (rm := none) (oc := none) z1 nL st tz)
theorem ok_backS {f : Addr} {fd : FuncData} (F : Fun K "back_step" "back_step" s_back_step f fd) (Y : Bn mg) : FnOk P w K mg base CX0 1 f fd ["relink", "at"] (spStep backS fun _ _ _ => True) := by
  refine F.ok sc_back_step (fun vs H Q E h => ?_) (fun cdv A outer s H vs Q E hr h => ?_)
  · obtain ⟨ra, pa, xs, c, j, rfl, _⟩ := h
    rfl
  · obtain ⟨ra, pa, xs, c, j, rfl, on, _, q⟩ := h
    refine ⟨_, (pss_cons (ps_if (pt_cmpR op_eq (pv 1) pe_int (nomark _))
 (pss_one (ps_ret (pe_tupZ (pa_cons (pe_lst pa_nil) (pa_cons pe_str (pa_cons pe_non (pa_cons pe_non (pa_cons pe_str pa_nil))))))))
 pss_nil)
 (pss_one (ps_ret (pe_tupZ (pa_cons (pe_lst (pa_cons (pe_tupZ (pa_cons (pe_ix ix_tup (pe_ix ix_tup (pv 0) pe_int (fun _ _ => rfl)) (pe_op op_sub (pv 1) pe_int) (fun _ _ => rfl)) (pa_cons pe_str pa_nil))) pa_nil)) (pa_cons pe_str (pa_cons pe_non (pa_cons pe_non (pa_cons pe_non pa_nil))))))))), ?_⟩
    have jl := on.jl
    unfold backS at q
    refine ⟨_, rfl, rfl, _, rfl, ite2 (fun c1 => ?_) (fun c1 => ?_)⟩
    · have c1' : j = 0 := by
        have z := of_decide_eq_true c1
        injection z with z
        omega
      rw [if_pos c1'] at q
      refine ⟨Nat.zero_le _, fun L nL => ⟨(by show 5 ≤ sizeLine; decide), fun t o nt st tz => ?_⟩⟩
      exact q _ t L ((same_upd nL).trans st) nL (at0 (ad := none) (rm := none) (oc := some _) (Same.refl _) nL st tz)
    · have c1' : ¬ j = 0 := fun z => c1 (decide_eq_true (by rw [z]; rfl))
      rw [if_neg c1'] at q
      refine ⟨_, rfl, ra, _, 0, _, rfl, rfl, on.ra.sq, atI_nat (j := 0) rfl, _, rfl, _, _, rfl, rfl, pa, _, _, _, rfl, rfl, on.pa.sq, at_pred jl c1', (by show 2 ≤ sizeLine; decide), fun t1 o1 n1 s1 z1 => ?_⟩
      refine ⟨(by show 1 ≤ sizeLine; decide), fun L nL => ⟨(by show 5 ≤ sizeLine; decide), fun t o nt st tz => ?_⟩⟩
      exact q _ t L ((s1.trans (same_upd nL)).trans st) (none_of s1 nL) (at1 (ad := none) (rm := none) (oc := none) z1 nL st tz)
def spFirst : Sp := fun vs H Q _ => ∃ (ra pa : Addr) (xs : List Str) (c j : Nat), vs = [.ref ra] ∧ On H ra pa xs c j ∧
  ∀ H' t L, Same H H' → H L = none → At H' t L (firstS xs c) → Q (.ref t) H'
theorem ok_firstS {f : Addr} {fd : FuncData} (F : Fun K "first_yes_step" "first_yes_step" s_first_yes_step f fd) (Y : Bn mg) : FnOk P w K mg base CX0 1 f fd ["relink"] spFirst := by
  refine F.ok sc_first_yes_step (fun vs H Q E h => ?_) (fun cdv A outer s H vs Q E hr h => ?_)
  · obtain ⟨ra, pa, xs, c, j, rfl, _⟩ := h
    rfl
  · obtain ⟨ra, pa, xs, c, j, rfl, on, q⟩ := h
    refine ⟨_, (pss_cons (ps_asg (pv 0) (pg_tup (by rfl) (pgs_cons (pg_name (i := 1) sc_first_yes_step.nd rfl (Or.inl rfl)) (pgs_cons (pg_name (i := 2) sc_first_yes_step.nd rfl (Or.inl rfl)) pgs_nil))))
 (pss_cons (ps_set (i := 3) sc_first_yes_step.nd rfl (.inl rfl) (pe_lst (pa_cons (pe_tupZ (pa_cons (pe_ix ix_tup (pv 1) pe_int (fun _ _ => rfl)) (pa_cons pe_str pa_nil))) pa_nil)))
 (pss_cons (ps_if (pt_cmpR op_eq (pv 2) pe_int (nomark _))
 (pss_one (ps_ret (pe_tupZ (pa_cons (pv 3) (pa_cons pe_str (pa_cons (pe_ix ix_tup (pv 1) (pe_un un_neg pe_int) (fun _ _ => rfl)) (pa_cons (pe_ix ix_tup (pv 1) pe_int (fun _ _ => rfl)) (pa_cons pe_str pa_nil))))))))
 pss_nil)
 (pss_one (ps_ret (pe_tupZ (pa_cons (pv 3) (pa_cons pe_str (pa_cons (pe_ix ix_tup (pv 1) (pe_un un_neg pe_int) (fun _ _ => rfl)) (pa_cons pe_non (pa_cons pe_non pa_nil))))))))))), ?_⟩
    have l3 := on.l3
    unfold firstS at q
    refine ⟨_, rfl, ra, _, rfl, on.ra.sq, rfl, _, _, rfl, _, _, rfl, rfl, ?_⟩
    refine ⟨_, rfl, pa, _, 1, _, rfl, rfl, on.pa.sq, at_nat (i := 1) (by omega), (by show 2 ≤ sizeLine; decide), fun t1 o1 n1 s1 z1 => ?_⟩
    refine ⟨(by show 1 ≤ sizeLine; decide), fun L nL => ?_⟩
    have on2 := (on.same s1).same (same_upd (o := .lst [.ref t1]) nL)
    refine ⟨_, rfl, rfl, _, rfl, ite2 (fun c1 => ?_) (fun c1 => ?_)⟩
    · have c1' : c = 0 := by
        have z := of_decide_eq_true c1
        injection z with z
        omega
      rw [if_pos c1'] at q
      refine ⟨_, rfl, _, rfl, 1, rfl, pa, _, -1, _, rfl, rfl, on2.pa.sq, at_end (by omega), _, rfl, pa, _, 1, _, rfl, rfl, on2.pa.sq, at_nat (i := 1) (by omega), (by show 5 ≤ sizeLine; decide), fun t o nt st tz => ?_⟩
      exact q _ t L ((s1.trans (same_upd nL)).trans st) (none_of s1 nL) (at1 (ad := some _) (rm := some _) (oc := some _) z1 nL st tz)
    · have c1' : ¬ c = 0 := fun z => c1 (decide_eq_true (by rw [z]; rfl))
      rw [if_neg c1'] at q
      refine ⟨_, rfl, _, rfl, 1, rfl, pa, _, -1, _, rfl, rfl, on2.pa.sq, at_end (by omega), (by show 5 ≤ sizeLine; decide), fun t o nt st tz => ?_⟩
      exact q _ t L ((s1.trans (same_upd nL)).trans st) (none_of s1 nL) (at1 (ad := some _) (rm := none) (oc := none) z1 nL st tz)
theorem ok_yesS {f : Addr} {fd : FuncData} (F : Fun K "yes_step" "yes_step" s_yes_step f fd) (Y : Bn mg) (G_first_yes_step : Fk P w K mg base CX0 1 "first_yes_step" ["relink"] spFirst) (G_link_cut_behind : Fk P w K mg base CX0 1 "link_cut_behind" ["relink", "at"] spBehind) :
    FnOk P w K mg base CX0 2 f fd ["relink", "at"] (spStep yesS fun _ _ _ => True) := by
  refine F.ok sc_yes_step (fun vs H Q E h => ?_) (fun cdv A outer s H vs Q E hr h => ?_)
  · obtain ⟨ra, pa, xs, c, j, rfl, _⟩ := h
    rfl
  · obtain ⟨ra, pa, xs, c, j, rfl, on, _, q⟩ := h
    refine ⟨_, (pss_cons (ps_asg (pv 0) (pg_tup (by rfl) (pgs_cons (pg_name (i := 2) sc_yes_step.nd rfl (Or.inl rfl)) (pgs_cons (pg_name (i := 3) sc_yes_step.nd rfl (Or.inl rfl)) pgs_nil))))
 (pss_cons (ps_if (pt_cmpR op_eq (pv 1) pe_int (nomark _))
 (pss_one (ps_ret (pe_callF G_first_yes_step (hr.mono (by decide)) (by rfl) pass0 (pa_cons (pv 0) pa_nil))))
 pss_nil)
 (pss_cons (ps_set (i := 4) sc_yes_step.nd rfl (.inl rfl) (pe_ifExp (pt_cmpR op_le (pv 1) (pv 3) (nomark _)) pe_str pe_str))
 (pss_one (ps_ret (pe_tupZ (pa_cons (pe_lst (pa_cons (pe_tupZ (pa_cons (pe_ix ix_tup (pv 2) (pe_op op_sub (pv 1) pe_int) (fun _ _ => rfl)) (pa_cons pe_str pa_nil))) pa_nil)) (pa_cons (pv 4) (pa_cons pe_non (pa_cons (pe_callF G_link_cut_behind (hr.mono (by decide)) (by rfl) pass0 (pa_cons (pv 0) (pa_cons (pv 1) pa_nil))) (pa_cons pe_non pa_nil))))))))))), ?_⟩
    have l3 := on.l3
    have jl := on.jl
    unfold yesS at q
    refine ⟨_, rfl, ra, _, rfl, on.ra.sq, rfl, _, _, rfl, _, _, rfl, rfl, ?_⟩
    refine ⟨_, rfl, rfl, _, rfl, ite2 (fun c1 => ?_) (fun c1 => ?_)⟩
    · have c1' : j = 0 := by
        have z := of_decide_eq_true c1
        injection z with z
        omega
      rw [if_pos c1'] at q
      exact ⟨_, rfl, ra, pa, xs, c, j, rfl, on, q⟩
    · have c1' : ¬ j = 0 := fun z => c1 (decide_eq_true (by rw [z]; rfl))
      rw [if_neg c1'] at q
      refine ⟨_, rfl, _, rfl, _, _, rfl, rfl, _, rfl, ite2 (fun c2 => ?_) (fun c2 => ?_)⟩
      · have c2' : j ≤ c := by
          have := of_decide_eq_true c2
          omega
        rw [if_pos c2'] at q
        refine ⟨_, rfl, _, rfl, _, _, rfl, rfl, pa, _, _, _, rfl, rfl, on.pa.sq, at_pred jl c1', (by show 2 ≤ sizeLine; decide), fun t1 o1 n1 s1 z1 => ?_⟩
        refine ⟨(by show 1 ≤ sizeLine; decide), fun L nL => ?_⟩
        have on2 := (on.same s1).same (same_upd (o := .lst [.ref t1]) nL)
        refine ⟨_, rfl, _, rfl, _, rfl, ra, pa, xs, c, j, rfl, on2, (by show 5 ≤ sizeLine; decide), fun t o nt st tz => ?_⟩
        exact q _ t L ((s1.trans (same_upd nL)).trans st) (none_of s1 nL) (at1 (ad := none) (oc := none) z1 nL st tz)
      · have c2' : ¬ j ≤ c := fun z => c2 (decide_eq_true (by omega))
        rw [if_neg c2'] at q
        refine ⟨_, rfl, _, rfl, _, _, rfl, rfl, pa, _, _, _, rfl, rfl, on.pa.sq, at_pred jl c1', (by show 2 ≤ sizeLine; decide), fun t1 o1 n1 s1 z1 => ?_⟩
        refine ⟨(by show 1 ≤ sizeLine; decide), fun L nL => ?_⟩
        have on2 := (on.same s1).same (same_upd (o := .lst [.ref t1]) nL)
        refine ⟨_, rfl, _, rfl, _, rfl, ra, pa, xs, c, j, rfl, on2, (by show 5 ≤ sizeLine; decide), fun t o nt st tz => ?_⟩
        exact q _ t L ((s1.trans (same_upd nL)).trans st) (none_of s1 nL) (at1 (ad := none) (oc := none) z1 nL st tz)
theorem ok_goS {f : Addr} {fd : FuncData} (F : Fun K "go_step" "go_step" s_go_step f fd) (Y : Bn mg) : FnOk P w K mg base CX0 1 f fd ["relink", "at"] (spStep goS fun _ _ j => j ≠ 0) := by
  refine F.ok sc_go_step (fun vs H Q E h => ?_) (fun cdv A outer s H vs Q E hr h => ?_)
  · obtain ⟨ra, pa, xs, c, j, rfl, _⟩ := h
    rfl
  · obtain ⟨ra, pa, xs, c, j, rfl, on, j0, q⟩ := h
    refine ⟨_, (pss_cons (ps_asg (pv 0) (pg_tup (by rfl) (pgs_cons (pg_name (i := 2) sc_go_step.nd rfl (Or.inl rfl)) (pgs_cons (pg_name (i := 3) sc_go_step.nd rfl (Or.inl rfl)) pgs_nil))))
 (pss_cons (ps_if (pt_cmpR op_lt (pv 1) (pv 3) (nomark _))
 (pss_one (ps_ret (pe_tupZ (pa_cons (pe_lst (pa_cons (pe_tupZ (pa_cons (pe_ix ix_tup (pv 2) (pe_op op_add (pv 1) pe_int) (fun _ _ => rfl)) (pa_cons pe_str pa_nil))) pa_nil)) (pa_cons pe_str (pa_cons pe_non (pa_cons pe_non (pa_cons pe_non pa_nil))))))))
 pss_nil)
 (pss_cons (ps_if (pt_cmpR op_eq (pv 1) (pv 3) (nomark _))
 (pss_one (ps_ret (pe_tupZ (pa_cons (pe_lst (pa_cons (pe_tupZ (pa_cons (pe_ix ix_tup (pv 2) (pe_op op_add (pv 1) pe_int) (fun _ _ => rfl)) (pa_cons pe_str pa_nil))) (pa_cons (pe_tupZ (pa_cons (pe_ix ix_tup (pv 2) (pe_op op_sub (pv 1) pe_int) (fun _ _ => rfl)) (pa_cons pe_str pa_nil))) pa_nil))) (pa_cons pe_str (pa_cons pe_non (pa_cons (pe_ix ix_tup (pv 2) (pe_op op_add (pv 1) pe_int) (fun _ _ => rfl)) (pa_cons pe_non pa_nil))))))))
 pss_nil)
 (pss_cons (ps_set (i := 4) sc_go_step.nd rfl (.inl rfl) (pe_ifExp (pt_cmpR op_lt (pv 1) (pe_op op_sub (pe_callB call_len_seq (by rfl) Y.len PySem.boot_len (pa_cons (pv 2) pa_nil)) pe_int) (nomark _)) (pe_lst (pa_cons (pe_tupZ (pa_cons (pe_ix ix_tup (pv 2) (pe_op op_add (pv 1) pe_int) (fun _ _ => rfl)) (pa_cons pe_str pa_nil))) pa_nil)) (pe_lst pa_nil)))
 (pss_one (ps_ret (pe_tupZ (pa_cons (pv 4) (pa_cons pe_str (pa_cons pe_non (pa_cons pe_non (pa_cons pe_non pa_nil)))))))))))), ?_⟩
    have l3 := on.l3
    have jl := on.jl
    have cl := on.cl
    unfold goS at q
    refine ⟨_, rfl, ra, _, rfl, on.ra.sq, rfl, _, _, rfl, _, _, rfl, rfl, ?_⟩
    refine ⟨_, rfl, _, rfl, _, _, rfl, rfl, _, rfl, ite2 (fun c1 => ?_) (fun c1 => ?_)⟩
    · have c1' : j < c := by
        have := of_decide_eq_true c1
        omega
      rw [if_pos c1'] at q
      refine ⟨_, rfl, _, rfl, _, _, rfl, rfl, pa, _, _, _, rfl, rfl, on.pa.sq, at_succ (by omega), (by show 2 ≤ sizeLine; decide), fun t1 o1 n1 s1 z1 => ?_⟩
      refine ⟨(by show 1 ≤ sizeLine; decide), fun L nL => ⟨(by show 5 ≤ sizeLine; decide), fun t o nt st tz => ?_⟩⟩
      exact q _ t L ((s1.trans (same_upd nL)).trans st) (none_of s1 nL) (at1 (ad := none) (rm := none) (oc := none) z1 nL st tz)
    have c1' : ¬ j < c := fun z => c1 (decide_eq_true (by omega))
    rw [if_neg c1'] at q
    refine ⟨_, rfl, _, rfl, rfl, _, rfl, ite2 (fun c2 => ?_) (fun c2 => ?_)⟩
    · have c2' : j = c := by
        have z := of_decide_eq_true c2
        injection z with z
        omega
      rw [if_pos c2'] at q
      refine ⟨_, rfl, _, rfl, _, _, rfl, rfl, pa, _, _, _, rfl, rfl, on.pa.sq, at_succ (by omega), (by show 2 ≤ sizeLine; decide), fun t1 o1 n1 s1 z1 => ?_⟩
      refine ⟨_, rfl, _, rfl, _, _, rfl, rfl, pa, _, _, _, rfl, rfl, (on.pa.same s1).sq, at_pred jl j0, (by show 2 ≤ sizeLine; decide), fun t2 o2 n2 s2 z2 => ?_⟩
      refine ⟨(by show 2 ≤ sizeLine; decide), fun L nL => ?_⟩
      have on2 := ((on.same s1).same s2).same (same_upd (o := .lst [.ref t1, .ref t2]) nL)
      refine ⟨_, rfl, _, rfl, _, _, rfl, rfl, pa, _, _, _, rfl, rfl, on2.pa.sq, at_succ (by omega), (by show 5 ≤ sizeLine; decide), fun t o nt st tz => ?_⟩
      exact q _ t L (((s1.trans s2).trans (same_upd nL)).trans st) (none_of (s1.trans s2) nL) (at2 (ad := none) (rm := some _) (oc := none) (z1.same s2) z2 nL st tz)
    have c2' : ¬ j = c := fun z => c2 (decide_eq_true (by rw [z]))
    rw [if_neg c2'] at q
    refine ⟨_, rfl, _, rfl, pa, _, rfl, .inr on.pa.sq, _, _, rfl, rfl, _, _, rfl, rfl, _, rfl, ?_⟩
    rw [List.length_map]
    refine ite2 (fun c3 => ?_) (fun c3 => ?_)
    · have c3' : j + 1 < xs.length := by
        have := of_decide_eq_true c3
        omega
      rw [if_pos c3'] at q
      refine ⟨_, rfl, _, rfl, _, _, rfl, rfl, pa, _, _, _, rfl, rfl, on.pa.sq, at_succ c3', (by show 2 ≤ sizeLine; decide), fun t1 o1 n1 s1 z1 => ?_⟩
      refine ⟨(by show 1 ≤ sizeLine; decide), fun L nL => ⟨_, rfl, (by show 5 ≤ sizeLine; decide), fun t o nt st tz => ?_⟩⟩
      exact q _ t L ((s1.trans (same_upd nL)).trans st) (none_of s1 nL) (at1 (ad := none) (rm := none) (oc := none) z1 nL st tz)
    · have c3' : ¬ j + 1 < xs.length := fun z => c3 (decide_eq_true (by omega))
      rw [if_neg c3'] at q
      refine ⟨Nat.zero_le _, fun L nL => ⟨_, rfl, (by show 5 ≤ sizeLine; decide), fun t o nt st tz => ?_⟩⟩
      exact q _ t L ((same_upd nL).trans st) nL (at0 (ad := none) (rm := none) (oc := none) (Same.refl _) nL st tz)
end
end My

namespace My
open PySem PySem.Spec PyProof.Rows L2 Gy Xl Xs Xt
section
variable {P : Program} {w : World} {K : PySem.W.Frag} {mg : Str → Option Value} {base : Heap} {H : Hp}
def spRcv : Sp := fun vs H Q _ => ∃ (ra pa : Addr) (xs : List Str) (c j : Nat) (kd : Str), vs = [.ref ra, .int (j : Int), .str kd] ∧ On H ra pa xs c j ∧ ∀ H', Same H H' → Q (.bl (recv xs c j kd)) H'
theorem ok_rcv {f : Addr} {fd : FuncData} (F : Fun K "is_received" "is_received" s_is_received f fd) (Y : Bn mg) : FnOk P w K mg base CX0 1 f fd ["relink", "at", "kind"] spRcv := by
  refine F.ok sc_is_received (fun vs H Q E h => ?_) (fun cdv A outer s H vs Q E hr h => ?_)
  · obtain ⟨ra, pa, xs, c, j, kd, rfl, _⟩ := h
    rfl
  · obtain ⟨ra, pa, xs, c, j, kd, rfl, on, q⟩ := h
    refine ⟨_, (pss_cons (ps_asg (pv 0) (pg_tup (by rfl) (pgs_cons (pg_name (i := 3) sc_is_received.nd rfl (Or.inl rfl)) (pgs_cons (pg_name (i := 4) sc_is_received.nd rfl (Or.inl rfl)) pgs_nil))))
 (pss_cons (ps_if (pt_cmpR op_eq (pv 2) pe_str (nomark _))
 (pss_one (ps_ret (pe_cmpR op_lt (pv 1) (pv 4) (nomark _))))
 pss_nil)
 (pss_cons (ps_if (pt_cmpR op_eq (pv 1) pe_int (nomark _))
 (pss_one (ps_ret (pe_cmpR op_in_seq (pv 2) (pe_tupZ (pa_cons pe_str (pa_cons pe_str pa_nil))) rfl)))
 pss_nil)
 (pss_one (ps_ret (pe_or (pe_cmpR op_lt (pv 1) (pe_op op_sub (pe_callB call_len_seq (by rfl) Y.len PySem.boot_len (pa_cons (pv 3) pa_nil)) pe_int) (nomark _)) (pe_one (pe_cmpR op_in_seq (pv 2) (pe_tupZ (pa_cons pe_str (pa_cons pe_str pa_nil))) rfl)))))))), ?_⟩
    have l3 := on.l3
    unfold recv at q
    refine ⟨_, rfl, ra, _, rfl, on.ra.sq, rfl, _, _, rfl, _, _, rfl, rfl, ?_⟩
    refine ⟨_, rfl, rfl, _, rfl, ite2 (fun c1 => ?_) (fun c1 => ?_)⟩
    · have c1' : kd = "back" := by
        have z := of_decide_eq_true c1
        injection z
      rw [if_pos c1'] at q
      refine ⟨_, rfl, _, rfl, _, _, rfl, rfl, ?_⟩
      have e : decide ((j : Int) < (c : Int)) = decide (j < c) := by
        congr 1
        rw [eq_iff_iff]
        omega
      have := q _ (Same.refl _)
      rw [← e] at this
      exact this
    have c1' : ¬ kd = "back" := fun z => c1 (decide_eq_true (by rw [z]))
    rw [if_neg c1'] at q
    refine ⟨_, rfl, rfl, _, rfl, ite2 (fun c2 => ?_) (fun c2 => ?_)⟩
    · have c2' : j = 0 := by
        have z := of_decide_eq_true c2
        injection z with z
        omega
      rw [if_pos c2'] at q
      refine ⟨_, rfl, (by show 2 ≤ sizeLine; decide), fun t o nt st tz => ?_⟩
      refine ⟨t, _, rfl, .inr tz.sq, rfl, flat_strs ["no", "yes"], ?_⟩
      show Q (.bl (inV (.str kd) ((["no", "yes"] : List Str).map V.str))) _
      rw [inV_strs]
      have e : decide (kd ∈ (["no", "yes"] : List Str)) = decide (kd = "no" ∨ kd = "yes") := by
        congr 1
        simp
      rw [e]
      exact q _ st
    · have c2' : ¬ j = 0 := fun z => c2 (decide_eq_true (by rw [z]; rfl))
      rw [if_neg c2'] at q
      refine ⟨_, rfl, _, rfl, pa, _, rfl, .inr on.pa.sq, _, _, rfl, rfl, _, _, rfl, rfl, _, rfl, ?_⟩
      rw [List.length_map]
      refine ite2 (fun c3 => ?_) (fun c3 => ?_)
      · have c3' : j + 1 < xs.length := by
          have := of_decide_eq_true c3
          omega
        rw [decide_eq_true c3', Bool.true_or] at q
        exact q _ (Same.refl _)
      · have c3' : ¬ j + 1 < xs.length := fun z => c3 (decide_eq_true (by omega))
        rw [decide_eq_false c3', Bool.false_or] at q
        refine ⟨_, rfl, (by show 2 ≤ sizeLine; decide), fun t o nt st tz => ?_⟩
        refine ⟨t, _, rfl, .inr tz.sq, rfl, flat_strs ["ask", "go"], ?_⟩
        show Q (.bl (inV (.str kd) ((["ask", "go"] : List Str).map V.str))) _
        rw [inV_strs]
        have e : decide (kd ∈ (["ask", "go"] : List Str)) = decide (kd = "ask" ∨ kd = "go") := by
          congr 1
          simp
        rw [e]
        exact q _ st
/-! the step -/
def stepR (xs : List Str) (c j : Nat) (kd : Str) : Res := if kd = "ask" then askS xs c j else if kd = "no" then noS xs c j else if kd = "yes" then yesS xs c j else if kd = "go" then goS xs c j else backS xs c j
def goodK (xs : List Str) (c j : Nat) : PyData → Option Str
  | .str kd => if (decide (kd ∈ KINDS) && recv xs c j kd) = true then some kd else none
  | _ => none
structure TxtS (K : PySem.W.Frag) (w : World) (mg : Str → Option Value) (fA fN fY fG fB : Addr) : Prop where
  ex : ∃ sa : Addr, mg "STEPS" = some (.ref sa) ∧ KDct K w sa "ask" (.ref fA) ∧ KDct K w sa "no" (.ref fN) ∧ KDct K w sa "yes" (.ref fY) ∧ KDct K w sa "go" (.ref fG) ∧ KDct K w sa "back" (.ref fB)
  nd : [fA, fN, fY, fG, fB].Nodup
  gA : mg "ask_step" = some (.ref fA)
  gN : mg "no_step" = some (.ref fN)
  gY : mg "yes_step" = some (.ref fY)
  gG : mg "go_step" = some (.ref fG)
  gB : mg "back_step" = some (.ref fB)
def Sf (fA fN fY fG fB : Addr) (f : Addr) : Option Sp := if f = fA then some (spStep askS fun _ _ j => j ≠ 0) else if f = fN then some (spStep noS fun _ _ _ => True) else if f = fY then some (spStep yesS fun _ _ _ => True)
  else if f = fG then some (spStep goS fun _ _ j => j ≠ 0) else if f = fB then some (spStep backS fun _ _ _ => True) else none
def spCtl (K : PySem.W.Frag) (C U S : Addr) : Sp := fun vs H Q E => ∃ (v h k : V) (d e ek : PyData), vs = [v, h, k] ∧ Dn K H v d ∧ sml d = true ∧ Dn K H h e ∧ sml e = true ∧ Dn K H k ek ∧ (isRel d = false → Ro E C "value" v H) ∧
  ∀ xs c, d = reld xs c → isRel d = true → (posn xs e = none → Ro E U "host" h H) ∧ ∀ j, posn xs e = some j →
    (∀ kd, goodK xs c j ek = some kd → ∀ H' t L, Same H H' → H L = none → At H' t L (stepR xs c j kd) → Q (.ref t) H') ∧ (goodK xs c j ek = none → Ro2 E S "host" "kind" h k H)
theorem ok_ctl {f C U S fA fN fY fG fB : Addr} {fd : FuncData} (F : Fun K "control_step" "control_step" s_control_step f fd) (T : TxtS K w mg fA fN fY fG fB) (R : Rz2 P w K mg base "InvalidStep" "host" "kind" S)
    (G_position : Fk P w K mg base (L2.CX P w) 6 "position" ["relink", "host"] (spQh K C U fun j _ => .int (j : Int))) (G_is_control_kind : Fk P w K mg base CX0 1 "is_control_kind" ["value"] (spKind K)) (G_is_received : Fk P w K mg base CX0 1 "is_received" ["relink", "at", "kind"] spRcv)
    (GA : Fk P w K mg base CX0 2 "ask_step" ["relink", "at"] (spStep askS fun _ _ j => j ≠ 0)) (GN : Fk P w K mg base CX0 1 "no_step" ["relink", "at"] (spStep noS fun _ _ _ => True)) (GY : Fk P w K mg base CX0 2 "yes_step" ["relink", "at"] (spStep yesS fun _ _ _ => True))
    (GG : Fk P w K mg base CX0 1 "go_step" ["relink", "at"] (spStep goS fun _ _ j => j ≠ 0)) (GB : Fk P w K mg base CX0 1 "back_step" ["relink", "at"] (spStep backS fun _ _ _ => True)) :
    FnOk P w K mg base (L2.CX P w) 7 f fd ["relink", "host", "kind"] (spCtl K C U S) := by
  obtain ⟨fI, fdI, XI, GI, bI⟩ := R.ex
  obtain ⟨sa, gS, kA, kN, kY, kG, kB⟩ := T.ex
  have nd := T.nd
  simp only [List.nodup_cons, List.mem_cons, List.not_mem_nil, or_false, not_or, List.nodup_nil, and_true, not_false_eq_true] at nd
  obtain ⟨⟨n1, n2, n3, n4⟩, ⟨n5, n6, n7⟩, ⟨n8, n9⟩, n10⟩ := nd
  have AS : ∀ f sp, Sf fA fN fY fG fB f = some sp → Held P w K mg base 2 f sp := by
    intro f sp h
    unfold Sf at h
    by_cases h1 : f = fA
    · rw [if_pos h1] at h
      cases h
      subst h1
      exact Held.of GA (by decide) T.gA
    rw [if_neg h1] at h
    by_cases h1 : f = fN
    · rw [if_pos h1] at h
      cases h
      subst h1
      exact Held.of GN (by decide) T.gN
    rw [if_neg h1] at h
    by_cases h1 : f = fY
    · rw [if_pos h1] at h
      cases h
      subst h1
      exact Held.of GY (by decide) T.gY
    rw [if_neg h1] at h
    by_cases h1 : f = fG
    · rw [if_pos h1] at h
      cases h
      subst h1
      exact Held.of GG (by decide) T.gG
    rw [if_neg h1] at h
    by_cases h1 : f = fB
    · rw [if_pos h1] at h
      cases h
      subst h1
      exact Held.of GB (by decide) T.gB
    rw [if_neg h1] at h
    cases h
  refine F.okX sc_control_step (fun vs H Q E h => ?_) (fun cdv A outer s H vs Q E hr h => ?_)
  · obtain ⟨v, h, k, d, e, ek, rfl, _⟩ := h
    rfl
  · obtain ⟨v, h, k, d, e, ek, rfl, dn, sm, dh, sh, dk, q2, q1⟩ := h
    refine ⟨_, (pss_cons (ps_set (i := 3) sc_control_step.nd rfl (.inl rfl) (pe_callF G_position (hr.mono (by decide)) (by rfl) (passes_call (E := E) (takes_of rfl rfl rfl rfl) (fun _ _ _ _ h => h)) (pa_cons (pv 0) (pa_cons (pv 1) pa_nil))))
 (pss_cons (ps_if (PW.pt (pw_or (pt_not (pt_val (pe_callF G_is_control_kind (hr.mono (by decide)) (by rfl) pass0 (pa_cons (pv 2) pa_nil)))) (pw_or1 (pt_not (pt_val (pe_callF G_is_received (hr.mono (by decide)) (by rfl) pass0 (pa_cons (pv 0) (pa_cons (pv 3) (pa_cons (pv 2) pa_nil)))))))))
 (pss_one (ps_raise2 rfl (takes_of rfl rfl rfl rfl) XI R.ty GI (hr.mono (by decide)) bI (by rfl) R.gm (pa_cons (pv 1) (pa_cons (pv 2) pa_nil))))
 pss_nil)
 (pss_cons (ps_set (i := 4) sc_control_step.nd rfl (.inl rfl) (pe_ix ix_kdict (pe_glob (v := .ref sa) (by rfl) gS rfl) (pv 2) (fun _ _ => rfl)))
 (pss_one (ps_ret (pe_callA (i := 4) AS (hr.mono (by decide)) rfl (.inl rfl) (pa_cons (pv 0) (pa_cons (pv 3) pa_nil)))))))), ?_⟩
    refine ⟨_, rfl, _, rfl, v, h, d, e, rfl, dn, sm, dh, sh, q2, fun xs c ed ir => ?_⟩
    obtain ⟨q3, q4⟩ := q1 xs c ed ir
    refine ⟨fun j hj H1 s1 => ?_, q3⟩
    obtain ⟨xs', c', ed', l3, nd, cl, ah⟩ := rel_parts ir
    obtain ⟨rfl, rfl⟩ : xs' = xs ∧ c' = c := by
      rw [ed] at ed'
      obtain ⟨e1, e2⟩ := reld_inj ed'
      exact ⟨e1.symm, e2.symm⟩
    subst ed
    obtain ⟨ra, pa, rfl, ha, hb⟩ := rel_heap dn
    have on : On H1 ra pa xs' c' j := ⟨ha.same s1, hb.same s1, l3, cl, posn_lt hj⟩
    obtain ⟨q5, q6⟩ := q4 j hj
    refine ⟨_, rfl, k, ek, rfl, dk.same s1, _, rfl, ?_⟩
    cases ck : isKind ek with
    | false =>
      refine iteT (iteT ⟨_, rfl, _, rfl, h, k, rfl, fun dx nx => ?_⟩)
      have z : goodK xs' c' j ek = none := by
        cases ek with
        | str x =>
          have ck' : decide (x ∈ KINDS) = false := ck
          show (if (decide (x ∈ KINDS) && recv xs' c' j x) = true then some x else none) = none
          rw [ck', Bool.false_and]
          rfl
        | _ => rfl
      exact q6 z _ dx (s1.trans (same_upd nx)) upd_same
    | true =>
      refine iteF ?_
      cases dk with
      | str kd =>
        refine ⟨_, rfl, _, rfl, _, rfl, ra, pa, xs', c', j, kd, rfl, on, fun H2 s2 => ⟨_, rfl, ?_⟩⟩
        have ck' : decide (kd ∈ KINDS) = true := ck
        cases cr : recv xs' c' j kd with
        | false =>
          refine iteT ⟨_, rfl, _, rfl, h, _, rfl, fun dx nx => ?_⟩
          have z : goodK xs' c' j (.str kd) = none := by
            show (if (decide (kd ∈ KINDS) && recv xs' c' j kd) = true then some kd else none) = none
            rw [cr, Bool.and_false]
            rfl
          exact q6 z _ dx ((s1.trans s2).trans (same_upd nx)) upd_same
        | true =>
          refine iteF ?_
          have z : goodK xs' c' j (.str kd) = some kd := by
            show (if (decide (kd ∈ KINDS) && recv xs' c' j kd) = true then some kd else none) = some kd
            rw [cr, ck']
            rfl
          have q := q5 kd z
          have on2 := on.same s2
          have s12 := s1.trans s2
          have mem := of_decide_eq_true ck'
          unfold KINDS at mem
          simp only [List.mem_cons, List.not_mem_nil, or_false] at mem
          unfold recv at cr
          rcases mem with rfl | rfl | rfl | rfl | rfl
          · have j0 : j ≠ 0 := fun z => by
              rw [if_neg (by decide), if_pos z] at cr
              exact absurd cr (by decide)
            refine ⟨_, rfl, sa, _, .ref fA, rfl, rfl, kA, fA, _, rfl, if_pos rfl, _, rfl, _, rfl, ra, pa, xs', c', j, rfl, on2, j0, fun H3 t L s3 nL at_ => ?_⟩
            exact q H3 t L (s12.trans s3) (none_of s12 nL) at_
          · refine ⟨_, rfl, sa, _, .ref fN, rfl, rfl, kN, fN, (spStep noS fun _ _ _ => True), rfl, (by unfold Sf; rw [if_neg (fun z => n1 z.symm), if_pos rfl]), _, rfl, _, rfl, ra, pa, xs', c', j, rfl, on2, trivial, fun H3 t L s3 nL at_ => ?_⟩
            exact q H3 t L (s12.trans s3) (none_of s12 nL) at_
          · refine ⟨_, rfl, sa, _, .ref fY, rfl, rfl, kY, fY, (spStep yesS fun _ _ _ => True), rfl, (by unfold Sf; rw [if_neg (fun z => n2 z.symm), if_neg (fun z => n5 z.symm), if_pos rfl]), _, rfl, _, rfl, ra, pa, xs', c', j, rfl, on2, trivial, fun H3 t L s3 nL at_ => ?_⟩
            exact q H3 t L (s12.trans s3) (none_of s12 nL) at_
          · have j0 : j ≠ 0 := fun z => by
              rw [if_neg (by decide), if_pos z] at cr
              exact absurd cr (by decide)
            refine ⟨_, rfl, sa, _, .ref fG, rfl, rfl, kG, fG, (spStep goS fun _ _ j => j ≠ 0), rfl, (by unfold Sf; rw [if_neg (fun z => n3 z.symm), if_neg (fun z => n6 z.symm), if_neg (fun z => n8 z.symm), if_pos rfl]), _, rfl, _, rfl, ra, pa, xs', c', j, rfl, on2, j0, fun H3 t L s3 nL at_ => ?_⟩
            exact q H3 t L (s12.trans s3) (none_of s12 nL) at_
          · refine ⟨_, rfl, sa, _, .ref fB, rfl, rfl, kB, fB, (spStep backS fun _ _ _ => True), rfl, (by unfold Sf; rw [if_neg (fun z => n4 z.symm), if_neg (fun z => n7 z.symm), if_neg (fun z => n9 z.symm), if_neg (fun z => n10 z.symm), if_pos rfl]), _, rfl, _, rfl, ra, pa, xs', c', j, rfl, on2, trivial, fun H3 t L s3 nL at_ => ?_⟩
            exact q H3 t L (s12.trans s3) (none_of s12 nL) at_
      | _ => cases ck
end
end My

namespace My
open PySem PySem.Spec PyProof.Rows L2 Gy Xl Xs Xt Xo Xp
section
variable {P : Program} {w : World} {K : PySem.W.Frag} {mg : Str → Option Value} {base : Heap} {H : Hp} {C CB CL CT CN : Addr}
structure Fm (P : Program) (w : World) (K : PySem.W.Frag) (mg : Str → Option Value) (base : Heap) (CX : CXT) (k : Nat) (C : Addr) (nm : Str) (ps : List Str) (sp : Sp) : Prop where
  ex : ∃ (f : Addr) (fd : FuncData), Meth K C nm f ∧ Binds K fd ps [] ∧ FnOk P w K mg base CX k f fd ps sp
theorem same_no {H H' : Hp} {a : Addr} (s : Same H H') (n : H' a = none) : H a = none := by
  cases z : H a with
  | none => rfl
  | some o => rw [s _ _ z] at n; cases n
/-- what is told as it is -/
def spGet (K : PySem.W.Frag) (C : Addr) (v : HS → HA → V) : Sp := fun vs H Q _ => ∃ (h : Addr) (st : HS) (ad : HA), vs = [.ref h] ∧ Hst K C H h st ad ∧ Q (v st ad) H
/-- a copy of one of its lists -/
def spLst (K : PySem.W.Frag) (C : Addr) (l : HS → List PyData) : Sp := fun vs H Q _ => ∃ (h : Addr) (st : HS) (ad : HA), vs = [.ref h] ∧ Hst K C H h st ad ∧ ∀ H' L us, Same H H' → H L = none → H' L = some (.lst us) → Dns K (fz H') us (l st) → Q (.ref L) H'
theorem dns_strs' {K : PySem.W.Frag} {H : Hp} (xs : List Str) : Dns K H (xs.map V.str) (xs.map PyData.str) := dns_strs xs
theorem ok_name_ {f : Addr} {fd : FuncData} (F : Fun K "name" "Host.name" m_name f fd) (T : Ch K C) : FnOk P w K mg base CX0 1 f fd ["self"] (spGet K C fun st _ => .str st.nm) := by
  refine F.ok scm_name (fun vs H Q E h => ?_) (fun cdv A outer s H vs Q E hr h => ?_)
  · obtain ⟨h, st, ad, rfl, _⟩ := h
    rfl
  · obtain ⟨h, st, ad, rfl, x, q⟩ := h
    refine ⟨_, (pss_one (ps_ret (pe_fld (pv 0) rfl))), ?_⟩
    exact ⟨_, rfl, h, C, ad.dx, _, _, rfl, x.at_, T.cl, T.n1, rfl, q⟩
theorem ok_relink_ {f : Addr} {fd : FuncData} (F : Fun K "relink" "Host.relink" m_relink f fd) (T : Ch K C) : FnOk P w K mg base CX0 1 f fd ["self"] (spGet K C fun _ ad => ad.jv) := by
  refine F.ok scm_relink (fun vs H Q E h => ?_) (fun cdv A outer s H vs Q E hr h => ?_)
  · obtain ⟨h, st, ad, rfl, _⟩ := h
    rfl
  · obtain ⟨h, st, ad, rfl, x, q⟩ := h
    refine ⟨_, (pss_one (ps_ret (pe_fld (pv 0) rfl))), ?_⟩
    exact ⟨_, rfl, h, C, ad.dx, _, _, rfl, x.at_, T.cl, T.n4, rfl, q⟩
theorem ok_phase_ {f : Addr} {fd : FuncData} (F : Fun K "phase" "Host.phase" m_phase f fd) (T : Ch K C) : FnOk P w K mg base CX0 1 f fd ["self"] (spGet K C fun st _ => .str st.sg) := by
  refine F.ok scm_phase (fun vs H Q E h => ?_) (fun cdv A outer s H vs Q E hr h => ?_)
  · obtain ⟨h, st, ad, rfl, _⟩ := h
    rfl
  · obtain ⟨h, st, ad, rfl, x, q⟩ := h
    refine ⟨_, (pss_one (ps_ret (pe_fld (pv 0) rfl))), ?_⟩
    exact ⟨_, rfl, h, C, ad.dx, _, _, rfl, x.at_, T.cl, T.n5, rfl, q⟩
theorem ok_log_ {f : Addr} {fd : FuncData} (F : Fun K "log" "Host.log" m_log f fd) (Y : Bn mg) (T : Ch K C) : FnOk P w K mg base CX0 1 f fd ["self"] (spLst K C fun st => st.lg) := by
  refine F.ok scm_log (fun vs H Q E h => ?_) (fun cdv A outer s H vs Q E hr h => ?_)
  · obtain ⟨h, st, ad, rfl, _⟩ := h
    rfl
  · obtain ⟨h, st, ad, rfl, x, q⟩ := h
    refine ⟨_, (pss_one (ps_ret (pe_callTy call_list_of (by rfl) Y.list (by decide +kernel) (pa_cons (pe_fld (pv 0) rfl) pa_nil)))), ?_⟩
    obtain ⟨us, e, d⟩ := x.lg
    refine ⟨_, rfl, h, C, ad.dx, _, _, rfl, x.at_, T.cl, T.n3, rfl, ad.Ll, us, rfl, .inl (SqL.of e), fun L nL => ?_⟩
    exact q _ L us (same_upd nL) nL upd_same (d.same (fz_keep (FzK.of (same_upd nL))))
theorem ok_links_ {f : Addr} {fd : FuncData} (F : Fun K "links" "Host.links" m_links f fd) (Y : Bn mg) (T : Ch K C) : FnOk P w K mg base CX0 1 f fd ["self"] (spLst K C fun st => st.lk.map PyData.str) := by
  refine F.ok scm_links (fun vs H Q E h => ?_) (fun cdv A outer s H vs Q E hr h => ?_)
  · obtain ⟨h, st, ad, rfl, _⟩ := h
    rfl
  · obtain ⟨h, st, ad, rfl, x, q⟩ := h
    refine ⟨_, (pss_one (ps_ret (pe_callTy call_list_of (by rfl) Y.list (by decide +kernel) (pa_cons (pe_fld (pv 0) rfl) pa_nil)))), ?_⟩
    refine ⟨_, rfl, h, C, ad.dx, _, _, rfl, x.at_, T.cl, T.n2, rfl, ad.Lk, _, rfl, .inl (SqL.of x.lk), fun L nL => ?_⟩
    exact q _ L _ (same_upd nL) nL upd_same (dns_strs _)
theorem ok_answers_ {f : Addr} {fd : FuncData} (F : Fun K "answers" "Host.answers" m_answers f fd) (Y : Bn mg) (T : Ch K C) : FnOk P w K mg base CX0 1 f fd ["self"] (spLst K C fun st => st.an) := by
  refine F.ok scm_answers (fun vs H Q E h => ?_) (fun cdv A outer s H vs Q E hr h => ?_)
  · obtain ⟨h, st, ad, rfl, _⟩ := h
    rfl
  · obtain ⟨h, st, ad, rfl, x, q⟩ := h
    refine ⟨_, (pss_one (ps_ret (pe_callTy call_list_of (by rfl) Y.list (by decide +kernel) (pa_cons (pe_fld (pv 0) rfl) pa_nil)))), ?_⟩
    obtain ⟨us, e, d⟩ := x.an
    refine ⟨_, rfl, h, C, ad.dx, _, _, rfl, x.at_, T.cl, T.n7, rfl, ad.La, us, rfl, .inl (SqL.of e), fun L nL => ?_⟩
    exact q _ L us (same_upd nL) nL upd_same (d.same (fz_keep (FzK.of (same_upd nL))))
theorem ok_queue_ {f : Addr} {fd : FuncData} (F : Fun K "queue" "Host.queue" m_queue f fd) (Y : Bn mg) (T : Ch K C) : FnOk P w K mg base CX0 1 f fd ["self"] (spLst K C fun st => st.qu) := by
  refine F.ok scm_queue (fun vs H Q E h => ?_) (fun cdv A outer s H vs Q E hr h => ?_)
  · obtain ⟨h, st, ad, rfl, _⟩ := h
    rfl
  · obtain ⟨h, st, ad, rfl, x, q⟩ := h
    refine ⟨_, (pss_one (ps_ret (pe_callTy call_list_of (by rfl) Y.list (by decide +kernel) (pa_cons (pe_fld (pv 0) rfl) pa_nil)))), ?_⟩
    obtain ⟨us, e, d⟩ := x.qu
    refine ⟨_, rfl, h, C, ad.dx, _, _, rfl, x.at_, T.cl, T.n6, rfl, ad.Lq, us, rfl, .inl (SqL.of e), fun L nL => ?_⟩
    exact q _ L us (same_upd nL) nL upd_same (d.same (fz_keep (FzK.of (same_upd nL))))
/-- Busy, if it takes part -/
def spCF (K : PySem.W.Frag) (C CB : Addr) : Sp := fun vs H Q E => ∃ (h : Addr) (st : HS) (ad : HA), vs = [.ref h] ∧ Hst K C H h st ad ∧ (st.jn = none → Q .non H) ∧ (st.jn ≠ none → Ro E CB "host" (.str st.nm) H)
theorem ok_cf {f : Addr} {fd : FuncData} (F : Fun K "check_free" "Host.check_free" m_check_free f fd) (T : Ch K C) (R : Rz P w K mg base "Busy" "host" CB) : FnOk P w K mg base (L2.CX P w) 3 f fd ["self"] (spCF K C CB) := by
  obtain ⟨fI, fdI, XI, GI, bI⟩ := R.ex
  refine F.okX scm_check_free (fun vs H Q E h => ?_) (fun cdv A outer s H vs Q E hr h => ?_)
  · obtain ⟨h, st, ad, rfl, _⟩ := h
    rfl
  · obtain ⟨h, st, ad, rfl, x, q1, q2⟩ := h
    refine ⟨_, (pss_one (ps_if (pt_cmpR op_notN (pe_fld (pv 0) rfl) pe_non (nomark _))
 (pss_one (ps_raise1 rfl (takes_of rfl rfl rfl rfl) XI R.ty GI (hr.mono (by decide)) bI (by rfl) R.gm (pa_cons (pe_fld (pv 0) rfl) pa_nil)))
 pss_nil)), ?_⟩
    refine ⟨_, rfl, h, C, ad.dx, _, _, rfl, x.at_, T.cl, T.n4, rfl, ?_⟩
    refine ⟨rfl, _, rfl, ?_⟩
    dsimp only
    cases ej : st.jn with
    | none =>
      have e : ad.jv = .non := by
        have := x.jn
        rw [ej] at this
        exact this
      rw [e]
      exact q1 ej
    | some p =>
      have ne : ad.jv ≠ .non := fun z => by
        have := x.jn
        rw [ej, z] at this
        obtain ⟨xs, c⟩ := p
        obtain ⟨t, pa, e, _⟩ := this
        cases e
      rw [decide_eq_false ne]
      refine iteT ⟨_, rfl, h, C, ad.dx, _, _, rfl, x.at_, T.cl, T.n1, rfl, _, rfl, fun ex nd => ?_⟩
      exact q2 (fun z => nomatch (ej.symm.trans z)) _ ex (same_upd nd) upd_same



theorem Hst.keep {h : Addr} {st : HS} {ad : HA} {H' : Hp} (x : Hst K C H h st ad) (o : Off h H H') : H' ad.Lk = some (.lst (st.lk.map V.str)) ∧ (∃ vs, H' ad.Ll = some (.lst vs) ∧ Dns K (fz H') vs st.lg) ∧ Jnd (fz H') ad.jv st.jn ∧ (∃ vs, H' ad.Lq = some (.lst vs) ∧ Dns K (fz H') vs st.qu) ∧ (∃ vs, H' ad.La = some (.lst vs) ∧ Dns K (fz H') vs st.an) := by
  have fk := fz_keep (FzK.off x.at_ o)
  have nh : ∀ {a : Addr} {vs : List V}, H a = some (.lst vs) → H' a = some (.lst vs) := fun e => o _ _ e (ne_of e x.at_ (fun z => nomatch z))
  obtain ⟨v1, a1, b1⟩ := x.lg
  obtain ⟨v2, a2, b2⟩ := x.qu
  obtain ⟨v3, a3, b3⟩ := x.an
  exact ⟨nh x.lk, ⟨v1, nh a1, b1.same fk⟩, x.jn.same fk, ⟨v2, nh a2, b2.same fk⟩, ⟨v3, nh a3, b3.same fk⟩⟩
/-- the links with one more -/
def spJoin (K : PySem.W.Frag) (C : Addr) : Sp := fun vs H Q _ => ∃ (h : Addr) (o : Str) (st : HS) (ad : HA), vs = [.ref h, .str o] ∧ Hst K C H h st ad ∧ st.lk.length < 60 ∧ ∀ H' Lk' ys, Off h H H' → FzK H H' → H Lk' = none → Hst K C H' h { st with lk := ys } { ad with Lk := Lk' } → ys.Perm (st.lk ++ [o]) → sortedS ys = true → Q .non H'
theorem ok_join {f : Addr} {fd : FuncData} (F : Fun K "join_to" "Host.join_to" m_join_to f fd) (Y : Bn mg) (T : Ch K C) : FnOk P w K mg base CX0 1 f fd ["self", "other"] (spJoin K C) := by
  refine F.ok scm_join_to (fun vs H Q E h => ?_) (fun cdv A outer s H vs Q E hr h => ?_)
  · obtain ⟨h, o, st, ad, rfl, _⟩ := h
    rfl
  · obtain ⟨h, o, st, ad, rfl, x, few, q⟩ := h
    refine ⟨_, (pss_one (ps_fld (pv 0) (pe_callB cr_sortedS (by rfl) Y.sorted (by decide +kernel) (pa_cons (pe_lst (StX.pa_star (pe_fld (pv 0) rfl) (pa_cons (pv 1) pa_nil))) pa_nil)) rfl)), ?_⟩
    have lk1 : (st.lk ++ [o]).map V.str = st.lk.map V.str ++ [.str o] := by rw [List.map_append]; rfl
    refine ⟨_, rfl, h, C, ad.dx, _, _, rfl, x.at_, T.cl, T.n2, rfl, ad.Lk, _, rfl, .inr (SqL.of x.lk), _, rfl, ?_, fun l nl => ?_⟩
    · rw [List.length_append, List.length_map]
      exact le400 (by show st.lk.length + 1 ≤ 10000; omega)
    have s1 := same_upd (o := .lst (st.lk.map V.str ++ [.str o])) nl
    have g1 : (upd H l (.lst (st.lk.map V.str ++ [.str o]))) l = _ := upd_same
    generalize upd H l (.lst (st.lk.map V.str ++ [.str o])) = H1 at s1 g1 ⊢
    refine ⟨l, st.lk ++ [o], rfl, SqL.of (by rw [lk1]; exact g1), (by rw [List.length_append, List.length_cons, List.length_nil]; omega), fun ys p pm srt np => ?_⟩
    have s2 := same_upd (o := .lst (ys.map V.str)) np
    have g2 : (upd H1 p (.lst (ys.map V.str))) p = _ := upd_same
    generalize upd H1 p (.lst (ys.map V.str)) = H2 at s2 g2 ⊢
    have s02 := s1.trans s2
    have at2 := s02 _ _ x.at_
    refine ⟨_, rfl, h, C, ad.dx, _, rfl, at2, T.cl, T.n2, (by show 7 < 1000; decide), ?_⟩
    have ph : p ≠ h := ne_of g2 at2 (fun z => nomatch z)
    have of : Off h H (upd H2 h (.ins C ad.dx (putF "linked" (.ref p) [("own_name", .str st.nm), ("linked", .ref ad.Lk), ("logged", .ref ad.Ll), ("joined", ad.jv), ("stage", .str st.sg), ("queued", .ref ad.Lq), ("finished", .ref ad.La)]))) := fun b u e n => by
      rw [upd_ne n]
      exact s02 b u e
    have fk := FzK.off x.at_ of
    obtain ⟨k1, k2, k3, k4, k5⟩ := x.keep of
    obtain ⟨_, el, _⟩ := x.lg
    obtain ⟨_, eq, _⟩ := x.qu
    obtain ⟨_, ea, _⟩ := x.an
    exact q _ p ys of fk (same_no s1 np) ⟨upd_same, (upd_ne ph).trans g2, k2, k3, k4, k5, (ne_of_none (s1 _ _ el) np).symm, (ne_of_none (s1 _ _ eq) np).symm, (ne_of_none (s1 _ _ ea) np).symm, x.sep.2.2.2⟩ pm srt
theorem text_str' {v : V} {cs : Str} {n : Int} (h : textOf v cs n = true) : ∃ x, v = .str x := by
  cases v with
  | str x => exact ⟨x, rfl⟩
  | _ => cases h
theorem txt_nm {v : V} (h : textOf v LET 8 = true) : ∃ x, v = .str x ∧ Nm x := by
  obtain ⟨x, rfl⟩ := text_str' h
  have h : (decide ((1 : Int) ≤ (x.length : Int)) && decide ((x.length : Int) ≤ 8) && x.cps.toList.all fun c => decide (c ∈ LET.cps.toList)) = true := h
  rw [Bool.and_eq_true, Bool.and_eq_true, decide_eq_true_eq, decide_eq_true_eq, List.all_eq_true] at h
  exact ⟨x, rfl, by omega, by omega, fun c hc => of_decide_eq_true (h.2 c hc)⟩
theorem nm_txt {x : Str} (h : Nm x) : textOf (.str x) LET 8 = true := by
  show (decide ((1 : Int) ≤ (x.length : Int)) && decide ((x.length : Int) ≤ 8) && x.cps.toList.all fun c => decide (c ∈ LET.cps.toList)) = true
  rw [Bool.and_eq_true, Bool.and_eq_true, decide_eq_true_eq, decide_eq_true_eq, List.all_eq_true]
  have := h.1
  have := h.2.1
  exact ⟨⟨by omega, by omega⟩, fun c hc => decide_eq_true (h.2.2 c hc)⟩



/-- how a host is made -/
structure MkH (P : Program) (w : World) (K : PySem.W.Frag) (mg : Str → Option Value) (base : Heap) (C : Addr) : Prop where
  gm : mg "Host" = some (.ref C)
  ex : ∃ (fI : Addr) (fd : FuncData) (g : List Value → List Value → List Value), Mk K C fI ∧ KBn K fd ["self", "name", "links", "log"] 2 ["links", "log"] g (fun vs zs => vs ++ zs) ∧ FnOk P w K mg base CX0 1 fI fd ["self", "name", "links", "log"] (spHInit K C)
theorem off_same {h : Addr} {H H1 H2 : Hp} (s : Same H H1) (n : H h = none) (o : Off h H1 H2) : Same H H2 := fun b u e => o _ _ (s b u e) (ne_of_none e n)


end
end My

namespace My
open PySem PySem.Spec PyProof.Rows L2 Gy Xl Xs Xt Xo Xp
/-! ### a host's messages -/
def sendD (w x : Str) (p : Str × Int) : PyData := .tuple [.str p.1, .tuple [.str "message", .str w, .str x, .int p.2]]
/-- whom a host sends a message on to -/
def outs (st : HS) (src : Option Str) (b : Int) : List (Str × Int) := match st.jn with
  | none => (gls src st.lk).map fun g => (g, 0)
  | some (xs, c) => match posn xs (.str st.nm) with
    | some j => sents (fun g => fwd xs c j st.sg src g b) (gls src st.lk)
    | none => []
/-- the relink in which it takes part is one, with this host on its path -/
def JnOk (st : HS) : Prop := ∀ xs c, st.jn = some (xs, c) → isRel (reld xs c) = true ∧ sml (reld xs c) = true ∧ ∃ j, posn xs (.str st.nm) = some j
section
variable {P : Program} {w : World} {K : PySem.W.Frag} {mg : Str → Option Value} {base : Heap} {H : Hp} {C CR CU CW : Addr}
def logD (w x : Str) : PyData := .tuple [.str w, .str x]
theorem outs_len (st : HS) (src : Option Str) (b : Int) : (outs st src b).length ≤ st.lk.length := by
  have g : (gls src st.lk).length ≤ st.lk.length := List.length_filter_le _ _
  unfold outs
  split
  · rw [List.length_map]
    exact g
  · split
    · exact Nat.le_trans (List.length_filterMap_le _ _) g
    · exact Nat.zero_le _
theorem pri_get {H : Hp} : ∀ {ts : List Addr} {ps : List (Str × Int)} {i : Nat} {y : V}, PrI H ts ps → (ts.map V.ref)[i]? = some y → ∃ t p, y = .ref t ∧ ps[i]? = some p ∧ Tz H t [.str p.1, .int p.2]
  | [], _, i, y, _, h => by simp at h
  | t :: ts, [], i, y, h, _ => h.elim
  | t :: ts, p :: ps, 0, y, h, e => by
    simp at e
    exact ⟨t, p, e.symm, rfl, h.1⟩
  | t :: ts, p :: ps, i + 1, y, h, e => by
    simp only [List.map_cons, List.getElem?_cons_succ] at e
    exact pri_get (ts := ts) (ps := ps) (i := i) h.2 e
theorem seq_use {te : TE} {g : TG} {rest : TS} {D : Ends} {σ : L2.St} {H : Hp} (S : V → Hp → Prop) (h1 : ∀ Q' : VK, (∀ v H', S v H' → Q' v H') → te σ H Q') (h2 : ∀ v H', S v H' → g v σ H' fun σ2 H2 => rest D σ2 H2) : tSeq (tAsg te g) rest D σ H := h1 _ h2
theorem Hst.log {h : Addr} {st : HS} {ad : HA} {lv : List V} {v : V} {d : PyData} (x : Hst K C H h st ad) (e : H ad.Ll = some (.lst lv)) (dl : Dns K (fz H) lv st.lg) (dn : Dn K (fz H) v d) : Hst K C (upd H ad.Ll (.lst (lv ++ [v]))) h { st with lg := st.lg ++ [d] } ad := by
  have fk := fz_keep ((FzK.refl H).upd (w := .lst (lv ++ [v])) e (fun _ _ z => nomatch z))
  obtain ⟨v2, a2, b2⟩ := x.qu
  obtain ⟨v3, a3, b3⟩ := x.an
  obtain ⟨s1, s2, s3, s4, s5, s6⟩ := x.sep
  exact ⟨(upd_ne (ne_of x.at_ e (fun z => nomatch z))).trans x.at_, (upd_ne s1).trans x.lk, ⟨_, upd_same, dns_app (dl.same fk) (.cons (dn.same fk) .nil)⟩, x.jn.same fk, ⟨v2, (upd_ne s4.symm).trans a2, b2.same fk⟩, ⟨v3, (upd_ne s5.symm).trans a3, b3.same fk⟩, x.sep⟩
def spLAF (K : PySem.W.Frag) (C : Addr) : Sp := fun vs H Q _ => ∃ (h : Addr) (w x : Str) (src : Option Str) (b : Int) (st : HS) (ad : HA), vs = [.ref h, .str w, .str x, optV src, .int b] ∧ Hst K C H h st ad ∧ st.lk.length ≤ 20 ∧ sortedS st.lk = true ∧ st.lg.length ≤ 1000 ∧ JnOk st ∧ Nm st.nm ∧
  ∀ H' L us, (∀ y o, H y = some o → y ≠ ad.Ll → H' y = some o) → Hst K C H' h { st with lg := st.lg ++ [logD w x] } ad → H L = none → H' L = some (.lst us) → Dns K (fz H') us ((outs st src b).map (sendD w x)) → Q (.ref L) H'
theorem dn_jnd {H : Hp} {v : V} {xs : List Str} {c : Nat} (j : Jnd (fz H) v (some (xs, c))) : Dn K H v (reld xs c) := by
  obtain ⟨t, pa, rfl, a, b⟩ := j
  exact (dn_reld a b).same (fz_same H)
theorem ok_laf {f : Addr} {fd : FuncData} {dvs : List V} (F : FunD K "log_and_forward" "Host.log_and_forward" (defArgs m_log_and_forward) (defBody m_log_and_forward) (defScope m_log_and_forward) dvs [] f fd) (Y : Bn mg) (T : Ch K C)
    (GP_forwards : Fw P w K mg base (L2.CX P w) 8 "forwards" ["links", "source", "bit", "relink", "host", "phase"] 1 ["source", "bit", "relink", "host", "phase"] (fun vs zs => vs ++ zs) (spForw K CR CU)) : FnOk P w K mg base CX0 9 f fd ["self", "writer", "word", "source", "bit"] (spLAF K C) := by
  refine F.ok (CX := CX0) scm_log_and_forward (fun vs H Q E h => ?_) (fun cdv A outer s H vs Q E hr h => ?_)
  · obtain ⟨h, w, x, src, b, st, ad, rfl, _⟩ := h
    rfl
  · obtain ⟨h, w, x, src, b, st, ad, rfl, hs, l20, srt, lgl, jok, nnm, q⟩ := h
    refine ⟨_, (pss_cons (ps_expr (pe_bm PySem.F.plainAttrs_list PySem.F.slot_list_append PySem.F.type_list_append mt_append (pe_fld (pv 0) rfl) (pa_cons (pe_tupZ (pa_cons (pv 1) (pa_cons (pv 2) pa_nil))) pa_nil)))
 (pss_cons (ps_set (i := 5) scm_log_and_forward.nd rfl (.inl rfl) (pe_callNF (E := fun _ _ _ => False) GP_forwards (hr.mono (by decide)) (by rfl) passN (pa_cons (pe_fld (pv 0) rfl) pa_nil) (pk_cons (pv 3) (pk_cons (pv 4) (pk_cons (pe_fld (pv 0) rfl) (pk_cons (pe_fld (pv 0) rfl) (pk_cons (pe_fld (pv 0) rfl) pk_nil)))))))
 (pss_one (ps_ret (pe_lc (own := [("goal", 6), ("sent", 7)]) (g := gTup K 2 (gCons (gName 6) (gCons (gName 7) gNil))) (tt := tYes) rfl scm_log_and_forward.nd (pi_list (pv 5)) (blkOk_by (N := ["self", "writer", "word", "source", "bit", "goals", "goal", "sent"]) (sc := defScope m_log_and_forward) (by decide +kernel)) (fun _ _ _ _ _ => (pg_tup (by rfl) (pgs_cons (pg_name (i := 6) scm_log_and_forward.nd rfl (Or.inl rfl)) (pgs_cons (pg_name (i := 7) scm_log_and_forward.nd rfl (Or.inl rfl)) pgs_nil)))) (fun _ _ _ _ _ => pts_nil) (fun _ _ _ _ _ => (pe_tupZ (pa_cons (pv 6) (pa_cons (pe_tupZ (pa_cons pe_str (pa_cons (pv 1) (pa_cons (pv 2) (pa_cons (pv 7) pa_nil))))) pa_nil))))))))), ?_⟩
    obtain ⟨lv, el, dl⟩ := hs.lg
    have ll := Dns.len dl
    refine ⟨_, rfl, h, C, ad.dx, _, _, rfl, hs.at_, T.cl, T.n3, rfl, .inl ⟨rfl, _, SqL.of el⟩, _, rfl, _, rfl, (by show 2 ≤ sizeLine; decide), fun t o nt s1 z1 => ?_⟩
    generalize upd H t o = H1 at s1 z1 ⊢
    have el1 := s1 _ _ el
    refine ⟨ad.Ll, lv, .ref t, rfl, rfl, el1, (by rw [sizeLine_eq]; omega), ?_⟩
    have x2 := (hs.same s1).log el1 (dl.same (fz_keep (FzK.of s1))) (show Dn K (fz H1) (.ref t) (logD w x) from .tup (Tz.fz z1) (.cons (.str w) (.cons (.str x) .nil)))
    have fr2 : ∀ y o, H y = some o → y ≠ ad.Ll → (upd H1 ad.Ll (.lst (lv ++ [.ref t]))) y = some o := fun y o e n => by
      rw [upd_ne n]
      exact s1 _ _ e
    have nn2 : ∀ {y}, (upd H1 ad.Ll (.lst (lv ++ [.ref t]))) y = none → H y = none := fun {y} e => by
      by_cases c : y = ad.Ll
      · rw [c, upd_same] at e
        cases e
      · rw [upd_ne c] at e
        exact same_no s1 e
    generalize upd H1 ad.Ll (.lst (lv ++ [.ref t])) = H2 at x2 fr2 nn2 ⊢
    dsimp only
    refine seq_use (fun v H3 => ∃ L, v = .ref L ∧ Same H2 H3 ∧ Lp H3 L (outs st src b)) (fun Q' hS => ?_) (fun v H3 hS => ?_)
    · have j2 := x2.jn
      cases ej : st.jn with
      | none =>
        have e : ad.jv = .non := by
          have : Jnd (fz H2) ad.jv st.jn := j2
          rw [ej] at this
          exact this
        refine ⟨_, rfl, h, C, ad.dx, _, _, rfl, x2.at_, T.cl, T.n2, rfl, _, rfl, _, rfl, _, rfl, h, C, ad.dx, _, _, rfl, x2.at_, T.cl, T.n4, rfl, _, rfl, h, C, ad.dx, _, _, rfl, x2.at_, T.cl, T.n1, rfl, _, rfl, h, C, ad.dx, _, _, rfl, x2.at_, T.cl, T.n5, rfl, rfl, rfl, ?_⟩
        refine ⟨ad.Lk, st.lk, src, b, ad.jv, .str st.nm, .none, .str st.nm, st.sg, rfl, x2.lk, l20, (by rw [e]; exact .non), rfl, .str _, (a0_nm nnm).sm, fun _ ys H3 L pm sr s3 nL lp => ?_, (fun z => absurd rfl z), fun xs c z => nomatch z⟩
        have ey := sort_uniq pm sr (List.Perm.refl _) srt
        subst ey
        refine hS _ _ ⟨L, rfl, s3, ?_⟩
        unfold outs
        rw [ej]
        exact lp
      | some p =>
        obtain ⟨xs, c⟩ := p
        have dj : Dn K H2 ad.jv (reld xs c) := dn_jnd (by
          have : Jnd (fz H2) ad.jv st.jn := j2
          rw [ej] at this
          exact this)
        obtain ⟨ir, sm, j, hj⟩ := jok xs c ej
        refine ⟨_, rfl, h, C, ad.dx, _, _, rfl, x2.at_, T.cl, T.n2, rfl, _, rfl, _, rfl, _, rfl, h, C, ad.dx, _, _, rfl, x2.at_, T.cl, T.n4, rfl, _, rfl, h, C, ad.dx, _, _, rfl, x2.at_, T.cl, T.n1, rfl, _, rfl, h, C, ad.dx, _, _, rfl, x2.at_, T.cl, T.n5, rfl, rfl, rfl, ?_⟩
        refine ⟨ad.Lk, st.lk, src, b, ad.jv, .str st.nm, reld xs c, .str st.nm, st.sg, rfl, x2.lk, l20, dj, sm, .str _, (a0_nm nnm).sm, (fun z => nomatch z), (fun _ z => absurd (ir.symm.trans z) (by decide)), fun xs' c' ee _ => ?_⟩
        obtain ⟨rfl, rfl⟩ := reld_inj ee
        refine ⟨fun z => (by rw [hj] at z; cases z), fun j' hj' ys H3 L pm sr s3 nL lp => ?_⟩
        have ey := sort_uniq pm sr (List.Perm.refl _) srt
        subst ey
        refine hS _ _ ⟨L, rfl, s3, ?_⟩
        unfold outs
        rw [ej]
        dsimp only
        rw [hj']
        exact lp
    · obtain ⟨L, rfl, s3, ts, eL, pr⟩ := hS
      have x3 := x2.same s3
      have ol := outs_len st src b
      generalize outs st src b = out at pr ol q
      have tl := pr.len
      refine ⟨_, rfl, L, rfl, ⟨_, SqL.of eL⟩, fun D nD => ?_⟩
      have nH : H D = none := nn2 (same_no s3 nD)
      refine lc_it (walk_list (K := K) (a := L) (xs := ts.map V.ref)) (fun i H' => Same H3 H' ∧ ∃ us, H' D = some (.lst us) ∧ Dns K (fz H') us ((out.take i).map (sendD w x)))
        ⟨same_upd nD, [], upd_same, .nil⟩ (fun i H' _ hI => SqL.of (hI.1 _ _ eL)) ?_ ?_
      · rintro i y H4 H5 hi ⟨s4, us, hD, du⟩ ⟨rfl, hy⟩
        obtain ⟨t, p, rfl, hp, tz⟩ := pri_get (pr.same s4) hy
        have lu := Dns.len du
        rw [List.length_map, List.length_take] at lu
        refine ⟨t, _, rfl, tz.sq, rfl, _, _, rfl, _, _, rfl, rfl, rfl, ?_⟩
        dsimp only [tYes]
        refine iteT ?_
        refine ⟨_, rfl, _, rfl, _, rfl, _, rfl, (by show 4 ≤ sizeLine; decide), fun t1 o1 n1 s5 z5 => ?_⟩
        generalize upd _ t1 o1 = H6 at s5 z5 ⊢
        refine ⟨(by show 2 ≤ sizeLine; decide), fun t2 o2 n2 s6 z6 => ?_⟩
        generalize upd H6 t2 o2 = H7 at s6 z6 ⊢
        have s46 := s5.trans s6
        have hD7 := s46 _ _ hD
        have fk := fz_keep ((FzK.refl H7).upd (w := .lst (us ++ [.ref t2])) hD7 (fun _ _ z => nomatch z))
        refine ⟨_, hD7, small200 (by omega), same_upd2 (s4.trans s46) nD, us ++ [.ref t2], upd_same, ?_⟩
        rw [List.take_add_one, hp, List.map_append]
        refine dns_app ((du.same (fz_keep (FzK.of s46))).same fk) (.cons (Dn.same fk ?_) .nil)
        exact .tup (Tz.fz z6) (.cons (.str _) (.cons (.tup (Tz.fz (z5.same s6)) (.cons (.str _) (.cons (.str w) (.cons (.str x) (.cons (.int _) .nil))))) .nil))
      · rintro H4 ⟨s4, us, hD, du⟩
        rw [List.length_map, tl, List.take_of_length_le (Nat.le_refl _)] at du
        exact q H4 D us (fun y o e n => s4 _ _ (s3 _ _ (fr2 y o e n))) (x3.same s4) nH hD du
end
end My

namespace My
open PySem PySem.Spec PyProof.Rows L2 Gy Xl Xs Xt Xo Xp
/-! ### whom a host waits for; its next host; whether it can join -/
def awt (st : HS) : Option Str := match st.jn with
  | none => none
  | some (xs, _) => if st.nm = xs.getD 0 "" then some (xs.getD (xs.length - 1) "") else if st.nm = xs.getD (xs.length - 1) "" then some (xs.getD 0 "") else none
/-- a relink with a host on its path -/
structure OnR (H : Hp) (ra pa : Addr) (xs : List Str) (c j : Nat) (nm : Str) : Prop where
  on : On H ra pa xs c j
  ir : isRel (reld xs c) = true
  sm : sml (reld xs c) = true
  ps : posn xs (.str nm) = some j
  nn : Nm nm
theorem OnR.same {H H' : Hp} {ra pa : Addr} {xs : List Str} {c j : Nat} {nm : Str} (h : OnR H ra pa xs c j nm) (s : Same H H') : OnR H' ra pa xs c j nm := ⟨h.on.same s, h.ir, h.sm, h.ps, h.nn⟩
theorem rel_nd {xs : List Str} {c : Nat} (ir : isRel (reld xs c) = true) : xs.Nodup := by
  obtain ⟨xs', c', e, _, nd, _⟩ := rel_parts ir
  obtain ⟨rfl, rfl⟩ := reld_inj e
  exact nd
theorem posn_is {xs : List Str} {nm : Str} {j : Nat} (nd : xs.Nodup) (h : posn xs (.str nm) = some j) : xs.getD j "" = nm := by
  have m : nm ∈ xs := by
    cases em : decide (nm ∈ xs) with
    | true => exact of_decide_eq_true em
    | false =>
      exfalso
      revert h
      unfold posn
      simp [of_decide_eq_false em]
  obtain ⟨i, hi, e⟩ := List.getElem_of_mem m
  have z := posn_at nd hi
  rw [show xs.getD i "" = nm by rw [List.getD_eq_getElem?_getD, List.getElem?_eq_getElem hi, e]; rfl] at z
  rw [h] at z
  obtain rfl : j = i := by injection z
  rw [List.getD_eq_getElem?_getD, List.getElem?_eq_getElem hi, e]
  rfl
theorem getD_inj {xs : List Str} {i j : Nat} (nd : xs.Nodup) (hi : i < xs.length) (hj : j < xs.length) (e : xs.getD i "" = xs.getD j "") : i = j := by
  have a := posn_at nd hi
  have b := posn_at nd hj
  rw [e, b] at a
  injection a with a
  exact a.symm
section
variable {P : Program} {w : World} {K : PySem.W.Frag} {mg : Str → Option Value} {base : Heap} {H : Hp} {C CR CU : Addr}
def spWait (K : PySem.W.Frag) (C : Addr) : Sp := fun vs H Q _ => ∃ (h : Addr) (st : HS) (ad : HA), vs = [.ref h] ∧ Hst K C H h st ad ∧ (∀ xs c, st.jn = some (xs, c) → 0 < xs.length) ∧ Q (optV (awt st)) H
theorem ok_wait {f : Addr} {fd : FuncData} (F : Fun K "waits_for" "Host.waits_for" m_waits_for f fd) (T : Ch K C) : FnOk P w K mg base CX0 1 f fd ["self"] (spWait K C) := by
  refine F.ok scm_waits_for (fun vs H Q E h => ?_) (fun cdv A outer s H vs Q E hr h => ?_)
  · obtain ⟨h, st, ad, rfl, _⟩ := h
    rfl
  · obtain ⟨h, st, ad, rfl, x, l0, q⟩ := h
    refine ⟨_, (pss_cons (ps_if (pt_cmpR op_isN (pe_fld (pv 0) rfl) pe_non (nomark _))
 (pss_one (ps_ret pe_non))
 pss_nil)
 (pss_cons (ps_set (i := 1) scm_waits_for.nd rfl (.inl rfl) (pe_ix ix_tup (pe_fld (pv 0) rfl) pe_int (fun _ _ => rfl)))
 (pss_cons (ps_if (pt_cmpR op_eq (pe_fld (pv 0) rfl) (pe_ix ix_tup (pv 1) pe_int (fun _ _ => rfl)) (nomark _))
 (pss_one (ps_ret (pe_ix ix_tup (pv 1) (pe_un un_neg pe_int) (fun _ _ => rfl))))
 pss_nil)
 (pss_one (ps_ret (pe_ifExp (pt_cmpR op_eq (pe_fld (pv 0) rfl) (pe_ix ix_tup (pv 1) (pe_un un_neg pe_int) (fun _ _ => rfl)) (nomark _)) (pe_ix ix_tup (pv 1) pe_int (fun _ _ => rfl)) pe_non)))))), ?_⟩
    refine ⟨_, rfl, h, C, ad.dx, _, _, rfl, x.at_, T.cl, T.n4, rfl, ?_⟩
    refine ⟨rfl, _, rfl, ?_⟩
    dsimp only
    unfold awt at q
    have jj := x.jn
    cases ej : st.jn with
    | none =>
      rw [ej] at jj q
      have e : ad.jv = .non := jj
      rw [e]
      exact iteT q
    | some p =>
      obtain ⟨xs, c⟩ := p
      have lx := l0 xs c ej
      rw [ej] at jj q
      obtain ⟨t, pa, e, za, zb⟩ := jj
      replace za := za.same (fz_same H)
      replace zb := zb.same (fz_same H)
      dsimp only at q
      rw [decide_eq_false (show ¬ ad.jv = V.non from fun z => by rw [e] at z; cases z)]
      refine iteF ⟨_, rfl, h, C, ad.dx, _, _, rfl, x.at_, T.cl, T.n4, rfl, t, _, 0, .ref pa, e, rfl, za.sq, atI_nat (j := 0) rfl, ?_⟩
      refine ⟨_, rfl, h, C, ad.dx, _, _, rfl, x.at_, T.cl, T.n1, rfl, _, rfl, pa, _, 0, _, rfl, rfl, zb.sq, at_nat (i := 0) lx, rfl, _, rfl, ite2 (fun c1 => ?_) (fun c1 => ?_)⟩
      · have c1' : st.nm = xs.getD 0 "" := by
          have z := of_decide_eq_true c1
          injection z
        rw [if_pos c1'] at q
        exact ⟨_, rfl, 1, rfl, pa, _, -1, _, rfl, rfl, zb.sq, at_end lx, q⟩
      have c1' : ¬ st.nm = xs.getD 0 "" := fun z => c1 (decide_eq_true (by rw [z]))
      rw [if_neg c1'] at q
      refine ⟨_, rfl, h, C, ad.dx, _, _, rfl, x.at_, T.cl, T.n1, rfl, _, rfl, 1, rfl, pa, _, -1, _, rfl, rfl, zb.sq, at_end lx, rfl, _, rfl, ite2 (fun c2 => ?_) (fun c2 => ?_)⟩
      · have c2' : st.nm = xs.getD (xs.length - 1) "" := by
          have z := of_decide_eq_true c2
          injection z
        rw [if_pos c2'] at q
        exact ⟨_, rfl, pa, _, 0, _, rfl, rfl, zb.sq, at_nat (i := 0) lx, q⟩
      · have c2' : ¬ st.nm = xs.getD (xs.length - 1) "" := fun z => c2 (decide_eq_true (by rw [z]))
        rw [if_neg c2'] at q
        exact q
def spPart (K : PySem.W.Frag) (C : Addr) : Sp := fun vs H Q _ => ∃ (h : Addr) (o : Str) (st : HS) (ad : HA), vs = [.ref h, .str o] ∧ Hst K C H h st ad ∧ st.lk.length < 60 ∧
  ∀ H' Lk', Off h H H' → FzK H H' → H Lk' = none → Hst K C H' h { st with lk := st.lk.filter (· ≠ o) } { ad with Lk := Lk' } → Q .non H'
theorem ok_part {f : Addr} {fd : FuncData} (F : Fun K "part_from" "Host.part_from" m_part_from f fd) (T : Ch K C) : FnOk P w K mg base CX0 1 f fd ["self", "other"] (spPart K C) := by
  refine F.ok scm_part_from (fun vs H Q E h => ?_) (fun cdv A outer s H vs Q E hr h => ?_)
  · obtain ⟨h, o, st, ad, rfl, _⟩ := h
    rfl
  · obtain ⟨h, o, st, ad, rfl, x, few, q⟩ := h
    refine ⟨_, (pss_one (ps_fld (pv 0) (pe_lc (own := [("link", 2)]) (g := gName 2) (tt := tTest (tOp rNe (tVar 2) (tVar 1))) rfl scm_part_from.nd (pi_list (pe_fld (pv 0) rfl)) (blkOk_by (N := ["self", "other", "link"]) (sc := defScope m_part_from) (by decide +kernel)) (fun _ _ _ _ _ => (pg_name (i := 2) scm_part_from.nd rfl (Or.inl rfl))) (fun _ _ _ _ _ => (pts_one (pt_cmpR op_ne (pv 2) (pv 1) (nomark _)))) (fun _ _ _ _ _ => (pv 2))) rfl)), ?_⟩
    refine ⟨_, rfl, h, C, ad.dx, _, _, rfl, x.at_, T.cl, T.n2, rfl, ad.Lk, rfl, ⟨_, SqL.of x.lk⟩, fun D nD => ?_⟩
    refine lc_it (walk_list (K := K) (a := ad.Lk) (xs := st.lk.map V.str)) (fun i H' => Same H H' ∧ H' D = some (.lst (((st.lk.take i).filter (· ≠ o)).map V.str)))
      ⟨same_upd nD, upd_same⟩ (fun i H' _ hI => SqL.of (hI.1 _ _ x.lk)) ?_ ?_
    · rintro i y H4 H5 hi ⟨s4, hD⟩ ⟨rfl, hy⟩
      rw [List.getElem?_map] at hy
      obtain ⟨z, hz, rfl⟩ := Option.map_eq_some_iff.mp hy
      refine ⟨rfl, _, rfl, _, rfl, rfl, _, rfl, ite2 (fun c => ?_) (fun c => ?_)⟩
      · have c' : z ≠ o := fun w => by
          rw [w] at c
          simp at c
        refine ⟨_, rfl, _, hD, ?_, same_upd2 s4 nD, ?_⟩
        · rw [List.length_map]
          refine small200 (Nat.le_trans (List.length_filter_le _ _) ?_)
          rw [List.length_take]
          omega
        · rw [upd_same, List.take_add_one, hz, List.filter_append, List.map_append]
          show some (HO.lst _) = some (HO.lst (_ ++ (List.filter _ [z]).map V.str))
          rw [List.filter_cons_of_pos (by simpa using c')]
          rfl
      · have c' : z = o := by
          cases w : decide (z = o) with
          | true => exact of_decide_eq_true w
          | false =>
            exfalso
            apply c
            rw [decide_eq_false (fun e => of_decide_eq_false w (by injection e))]
            rfl
        refine ⟨s4, ?_⟩
        rw [hD, List.take_add_one, hz, List.filter_append]
        show some (HO.lst _) = some (HO.lst ((_ ++ List.filter _ [z]).map V.str))
        rw [List.filter_cons_of_neg (by simpa using c'), List.filter_nil, List.append_nil]
    · rintro H4 ⟨s4, hD⟩
      rw [List.length_map, List.take_of_length_le (Nat.le_refl _)] at hD
      have at4 := s4 _ _ x.at_
      refine ⟨_, rfl, h, C, ad.dx, _, rfl, at4, T.cl, T.n2, (by show 7 < 1000; decide), ?_⟩
      have ph : D ≠ h := ne_of hD at4 (fun z => nomatch z)
      have of : Off h H (upd H4 h (.ins C ad.dx (putF "linked" (.ref D) [("own_name", .str st.nm), ("linked", .ref ad.Lk), ("logged", .ref ad.Ll), ("joined", ad.jv), ("stage", .str st.sg), ("queued", .ref ad.Lq), ("finished", .ref ad.La)]))) := fun b u e n => by
        rw [upd_ne n]
        exact s4 b u e
      have fk := FzK.off x.at_ of
      obtain ⟨k1, k2, k3, k4, k5⟩ := x.keep of
      obtain ⟨_, el, _⟩ := x.lg
      obtain ⟨_, eq, _⟩ := x.qu
      obtain ⟨_, ea, _⟩ := x.an
      exact q _ D of fk nD ⟨upd_same, (upd_ne ph).trans hD, k2, k3, k4, k5, (ne_of_none el nD).symm, (ne_of_none eq nD).symm, (ne_of_none ea nD).symm, x.sep.2.2.2⟩
def spNext (K : PySem.W.Frag) (C : Addr) : Sp := fun vs H Q _ => ∃ (h ra pa : Addr) (xs : List Str) (c j : Nat) (st : HS) (ad : HA), vs = [.ref h, .ref ra] ∧ Hst K C H h st ad ∧ OnR H ra pa xs c j st.nm ∧ j + 1 < xs.length ∧ ∀ H', Same H H' → Q (.str (xs.getD (j + 1) "")) H'
theorem ok_next {f : Addr} {fd : FuncData} (F : Fun K "next_host" "Host.next_host" m_next_host f fd) (T : Ch K C) (G_position : Fk P w K mg base (L2.CX P w) 6 "position" ["relink", "host"] (spQh K CR CU fun j _ => .int (j : Int))) : FnOk P w K mg base CX0 7 f fd ["self", "relink"] (spNext K C) := by
  refine F.ok scm_next_host (fun vs H Q E h => ?_) (fun cdv A outer s H vs Q E hr h => ?_)
  · obtain ⟨h, ra, pa, xs, c, j, st, ad, rfl, _⟩ := h
    rfl
  · obtain ⟨h, ra, pa, xs, c, j, st, ad, rfl, x, on, jl, q⟩ := h
    refine ⟨_, (pss_one (ps_ret (pe_ix ix_tup (pe_ix ix_tup (pv 1) pe_int (fun _ _ => rfl)) (pe_op op_add (pe_callF (E := fun _ _ _ => False) G_position (hr.mono (by decide)) (by rfl) passN (pa_cons (pv 1) (pa_cons (pe_fld (pv 0) rfl) pa_nil))) pe_int) (fun _ _ => rfl)))), ?_⟩
    have ra_ := on.on.ra
    refine ⟨_, rfl, ra, _, 0, _, rfl, rfl, ra_.sq, atI_nat (j := 0) rfl, ?_⟩
    refine ⟨_, rfl, _, rfl, h, C, ad.dx, _, _, rfl, x.at_, T.cl, T.n1, rfl, .ref ra, .str st.nm, reld xs c, .str st.nm, rfl, dn_reld on.on.ra on.on.pa, on.sm, .str _, (a0_nm on.nn).sm, (fun z => absurd (on.ir.symm.trans z) (by decide)), fun xs' c' ed _ => ?_⟩
    obtain ⟨rfl, rfl⟩ := reld_inj ed
    refine ⟨fun j' hj H1 s1 => ?_, fun z => absurd (on.ps.symm.trans z) (fun z => nomatch z)⟩
    obtain rfl : j = j' := by
      rw [on.ps] at hj
      injection hj
    refine ⟨_, _, rfl, rfl, pa, _, _, _, rfl, rfl, (on.on.pa.same s1).sq, at_succ jl, q _ s1⟩
/-- whether a free host takes part -/
def canJ (st : HS) (xs : List Str) (j : Nat) : Bool := st.jn.isNone && (decide (j + 1 = xs.length) || decide (xs.getD (j + 1) "" ∈ st.lk))
def spCanJ (K : PySem.W.Frag) (C : Addr) : Sp := fun vs H Q _ => ∃ (h ra pa : Addr) (xs : List Str) (c j : Nat) (st : HS) (ad : HA), vs = [.ref h, .ref ra] ∧ Hst K C H h st ad ∧ OnR H ra pa xs c j st.nm ∧ ∀ H', Same H H' → Q (.bl (canJ st xs j)) H'
theorem ok_canJ {f : Addr} {fd : FuncData} (F : Fun K "can_join" "Host.can_join" m_can_join f fd) (T : Ch K C) (M_next_host : Fm P w K mg base CX0 7 C "next_host" ["self", "relink"] (spNext K C)) : FnOk P w K mg base CX0 8 f fd ["self", "relink"] (spCanJ K C) := by
  obtain ⟨_, _, MM_next_host, MB_next_host, MF_next_host⟩ := M_next_host.ex
  refine F.ok scm_can_join (fun vs H Q E h => ?_) (fun cdv A outer s H vs Q E hr h => ?_)
  · obtain ⟨h, ra, pa, xs, c, j, st, ad, rfl, _⟩ := h
    rfl
  · obtain ⟨h, ra, pa, xs, c, j, st, ad, rfl, x, on, q⟩ := h
    refine ⟨_, (pss_cons (ps_if (pt_cmpR op_notN (pe_fld (pv 0) rfl) pe_non (nomark _))
 (pss_one (ps_ret pe_bl))
 pss_nil)
 (pss_one (ps_ret (pe_or (pe_cmpR op_eq (pe_fld (pv 0) rfl) (pe_ix ix_tup (pe_ix ix_tup (pv 1) pe_int (fun _ _ => rfl)) (pe_un un_neg pe_int) (fun _ _ => rfl)) (nomark _)) (pe_one (pe_cmpR op_in_seq (pe_meth (pv 0) T.cl MM_next_host MF_next_host (hr.mono (by decide)) MB_next_host .nil pass0 (pa_cons (pv 1) pa_nil)) (pe_fld (pv 0) rfl) rfl)))))), ?_⟩
    have lx : 0 < xs.length := by have := on.on.l3; omega
    unfold canJ at q
    refine ⟨_, rfl, h, C, ad.dx, _, _, rfl, x.at_, T.cl, T.n4, rfl, ?_⟩
    refine ⟨rfl, _, rfl, ?_⟩
    dsimp only
    have jj := x.jn
    cases ej : st.jn with
    | some p =>
      have ne : ad.jv ≠ .non := fun z => by
        rw [ej, z] at jj
        obtain ⟨xs, c⟩ := p
        obtain ⟨t, pa, e, _⟩ := jj
        cases e
      rw [decide_eq_false ne]
      rw [ej] at q
      exact iteT (q _ (Same.refl _))
    | none =>
      rw [ej] at jj q
      have e : ad.jv = .non := jj
      rw [e]
      refine iteF ?_
      refine ⟨_, rfl, h, C, ad.dx, _, _, rfl, x.at_, T.cl, T.n1, rfl, _, rfl, ra, _, 0, _, rfl, rfl, on.on.ra.sq, atI_nat (j := 0) rfl, 1, rfl, pa, _, -1, _, rfl, rfl, on.on.pa.sq, at_end lx, rfl, _, rfl, ite2 (fun c1 => ?_) (fun c1 => ?_)⟩
      · have c1' : st.nm = xs.getD (xs.length - 1) "" := by
          have z := of_decide_eq_true c1
          injection z
        have jl : j = xs.length - 1 := getD_inj (rel_nd on.ir) on.on.jl (by omega) ((posn_is (rel_nd on.ir) on.ps).trans c1')
        have z := q _ (Same.refl _)
        rw [decide_eq_true (show j + 1 = xs.length by omega)] at z
        exact z
      · have jl : j + 1 < xs.length := by
          have := on.on.jl
          have : ¬ j + 1 = xs.length := fun z => c1 (decide_eq_true (by
            rw [← posn_is (rel_nd on.ir) on.ps, show xs.length - 1 = j by omega]))
          omega
        refine ⟨_, rfl, h, ad.dx, _, rfl, x.at_, (by rfl), _, rfl, h, ra, pa, xs, c, j, st, ad, rfl, x, on, jl, fun H1 s1 => ?_⟩
        have x1 := x.same s1
        refine ⟨_, rfl, h, C, ad.dx, _, _, rfl, x1.at_, T.cl, T.n2, rfl, ad.Lk, _, rfl, .inl (SqL.of x1.lk), rfl, flat_strs _, ?_⟩
        have z := q _ s1
        rw [decide_eq_false (show ¬ j + 1 = xs.length by omega)] at z
        show Q (.bl (inV _ _)) _
        rw [inV_strs]
        exact z
end
end My

namespace My
open PySem PySem.Spec PyProof.Rows L2 Gy Xl Xs Xt Xo Xp
/-! ### a host acts on a control item -/
def addS (o : Option Str) (st : HS) : HS := match o with
  | none => st
  | some y => { st with lk := srt (st.lk ++ [y]) }
def rmS (o : Option Str) (st : HS) : HS := match o with
  | none => st
  | some y => { st with lk := st.lk.filter (· ≠ y) }
def ansD (xs : List Str) (c : Nat) (y : Str) : PyData := .tuple [.tuple (xs.map PyData.str), .int (c : Int), .str y]
def ocS (xs : List Str) (c : Nat) (o : Option Str) (st : HS) : HS := match o with
  | none => st
  | some y => { st with an := st.an ++ [ansD xs c y] }
def phS (xs : List Str) (c : Nat) (ph : Str) (st : HS) : HS := { st with sg := ph, jn := if ph = "free" then none else some (xs, c) }
def actS (xs : List Str) (c : Nat) (r : Res) (st : HS) : HS := phS xs c r.ph (ocS xs c r.oc (rmS r.rm (addS r.ad st)))
def ctlI (k : Str) (xs : List Str) (c : Nat) : PyData := .tuple [.str k, .tuple (xs.map PyData.str), .int (c : Int)]
def ctlD (xs : List Str) (c : Nat) (p : Str × Str) : PyData := .tuple [.str p.1, ctlI p.2 xs c]
section
variable {P : Program} {w : World} {K : PySem.W.Frag} {mg : Str → Option Value} {base : Heap} {H H1 H2 : Hp} {C CR CU CS : Addr}
structure OffA (h : Addr) (ad : HA) (H H' : Hp) : Prop where
  st : ∀ y o, H y = some o → y ≠ h → y ≠ ad.Ll → y ≠ ad.Lq → y ≠ ad.La → H' y = some o
  dm : ∀ y, H' y = none → H y = none
structure NewA (H : Hp) (ad ad' : HA) : Prop where
  lk : ad'.Lk = ad.Lk ∨ H ad'.Lk = none
  ll : ad'.Ll = ad.Ll ∨ H ad'.Ll = none
  lq : ad'.Lq = ad.Lq ∨ H ad'.Lq = none
  la : ad'.La = ad.La ∨ H ad'.La = none
variable {h : Addr} {st st1 st2 : HS} {ad ad1 ad2 : HA}
theorem OffA.refl : OffA h ad H H := ⟨fun _ _ e _ _ _ _ => e, fun _ e => e⟩
theorem NewA.refl : NewA H ad ad := ⟨.inl rfl, .inl rfl, .inl rfl, .inl rfl⟩
theorem OffA.same (s : Same H H1) : OffA h ad H H1 := ⟨fun _ _ e _ _ _ _ => s _ _ e, fun _ n => same_no s n⟩
theorem ne_new {a b : Addr} {o : HO} (e : H a = some o) (h : b = a ∨ H b = none) (n : a ≠ b → False) : b = a := by
  rcases h with h | h
  · exact h
  · exact (n (ne_of_none e h)).elim
theorem OffA.trans (a : OffA h ad H H1) (n : NewA H ad ad1) (b : OffA h ad1 H1 H2) : OffA h ad H H2 := by
  have k : ∀ {y p q : Addr} {o : HO}, H y = some o → y ≠ p → (q = p ∨ H q = none) → y ≠ q := fun {y p q o} e m z w => by
    rcases z with z | z
    · exact m (w.trans z)
    · rw [← w, e] at z
      cases z
  exact ⟨fun y o e n1 n2 n3 n4 => b.st y o (a.st y o e n1 n2 n3 n4) n1 (k e n2 n.ll) (k e n3 n.lq) (k e n4 n.la), fun y e => a.dm y (b.dm y e)⟩
theorem NewA.trans (a : OffA h ad H H1) (n : NewA H ad ad1) (m : NewA H1 ad1 ad2) : NewA H ad ad2 := by
  have k : ∀ {p q r : Addr}, (q = p ∨ H q = none) → (r = q ∨ H1 r = none) → (r = p ∨ H r = none) := fun {p q r} z w => by
    rcases w with w | w
    · rw [w]
      exact z
    · exact .inr (a.dm _ w)
  exact ⟨k n.lk m.lk, k n.ll m.ll, k n.lq m.lq, k n.la m.la⟩
theorem OffA.of {st' : HS} {ad' : HA} (o : Off h H H1) (x : Hst K C H1 h st' ad') : OffA h ad H H1 := ⟨fun y u e n _ _ _ => o y u e n, fun y n => o.none x.at_ n⟩
theorem _root_.Xt.Tz.fzk {t : Addr} {xs : List V} (z : Tz H t xs) (f : FzK H H1) : Tz H1 t xs := by
  obtain ⟨o, e, c⟩ := z
  exact ⟨o, f _ _ _ e, c⟩
theorem OnR.fzk {ra pa : Addr} {xs : List Str} {c j : Nat} {nm : Str} (o : OnR H ra pa xs c j nm) (f : FzK H H1) : OnR H1 ra pa xs c j nm := ⟨⟨o.on.ra.fzk f, o.on.pa.fzk f, o.on.l3, o.on.cl, o.on.jl⟩, o.ir, o.sm, o.ps, o.nn⟩
theorem Prs.fzk (f : FzK H H1) : ∀ {ts : List Addr} {ps : List (Str × Str)}, Prs H ts ps → Prs H1 ts ps
  | [], [], _ => trivial
  | _ :: _, _ :: _, h => ⟨h.1.fzk f, Prs.fzk f h.2⟩
theorem Prs.len {H : Hp} : ∀ {ts : List Addr} {ps : List (Str × Str)}, Prs H ts ps → ts.length = ps.length
  | [], [], _ => rfl
  | _ :: ts, _ :: ps, h => by
    show ts.length + 1 = ps.length + 1
    rw [Prs.len h.2]
theorem prs_get {H : Hp} : ∀ {ts : List Addr} {ps : List (Str × Str)} {i : Nat} {y : V}, Prs H ts ps → (ts.map V.ref)[i]? = some y → ∃ t p, y = .ref t ∧ ps[i]? = some p ∧ Tz H t [.str p.1, .str p.2]
  | [], _, i, y, _, h => by simp at h
  | t :: ts, [], i, y, h, _ => h.elim
  | t :: ts, p :: ps, 0, y, h, e => by
    simp at e
    exact ⟨t, p, e.symm, rfl, h.1⟩
  | t :: ts, p :: ps, i + 1, y, h, e => by
    simp only [List.map_cons, List.getElem?_cons_succ] at e
    exact prs_get (ts := ts) (ps := ps) (i := i) h.2 e
theorem te_use {te : TE} {σ : L2.St} {H : Hp} {Q : VK} {v : V} (h2 : Q v H) (h1 : ∀ Q' : VK, Q' v H → te σ H Q') : te σ H Q := h1 Q h2
theorem sq_by {A rest : TS} {D : Ends} {σ : L2.St} {H : Hp} (S : Hp → Prop) (h1 : ∀ R : Ends, (∀ H', S H' → R.nx σ H') → A R σ H) (h2 : ∀ H', S H' → rest D σ H') : tSeq A rest D σ H := h1 _ h2
theorem jv_is (x : Hst K C H h st ad) : decide (ad.jv = V.non) = st.jn.isNone := by
  have jj := x.jn
  cases ej : st.jn with
  | none =>
    rw [ej] at jj
    have e : ad.jv = .non := jj
    rw [e]
    rfl
  | some p =>
    rw [ej] at jj
    obtain ⟨xs, c⟩ := p
    obtain ⟨t, pa, e, _⟩ := jj
    rw [e]
    rfl
/-- its lists stand, its fields may change -/
theorem Hst.put (x : Hst K C H h st ad) {jv : V} {jn : Option (List Str × Nat)} {sg : Str} (j : Jnd (fz H) jv jn) : Hst K C (upd H h (.ins C ad.dx [("own_name", .str st.nm), ("linked", .ref ad.Lk), ("logged", .ref ad.Ll), ("joined", jv), ("stage", .str sg), ("queued", .ref ad.Lq), ("finished", .ref ad.La)])) h { st with jn := jn, sg := sg } { ad with jv := jv } := by
  have o : Off h H (upd H h (.ins C ad.dx [("own_name", .str st.nm), ("linked", .ref ad.Lk), ("logged", .ref ad.Ll), ("joined", jv), ("stage", .str sg), ("queued", .ref ad.Lq), ("finished", .ref ad.La)])) := (Off.refl h H).upd
  obtain ⟨k1, k2, k3, k4, k5⟩ := x.keep o
  exact ⟨upd_same, k1, k2, j.same (fz_keep (FzK.off x.at_ o)), k4, k5, x.sep⟩
theorem Hst.ans {lv : List V} {v : V} {d : PyData} (x : Hst K C H h st ad) (e : H ad.La = some (.lst lv)) (dl : Dns K (fz H) lv st.an) (dn : Dn K (fz H) v d) : Hst K C (upd H ad.La (.lst (lv ++ [v]))) h { st with an := st.an ++ [d] } ad := by
  have fk := fz_keep ((FzK.refl H).upd (w := .lst (lv ++ [v])) e (fun _ _ z => nomatch z))
  obtain ⟨v2, a2, b2⟩ := x.qu
  obtain ⟨v3, a3, b3⟩ := x.lg
  obtain ⟨s1, s2, s3, s4, s5, s6⟩ := x.sep
  exact ⟨(upd_ne (ne_of x.at_ e (fun z => nomatch z))).trans x.at_, (upd_ne s3).trans x.lk, ⟨v3, (upd_ne s5).trans a3, b3.same fk⟩, x.jn.same fk, ⟨v2, (upd_ne s6).trans a2, b2.same fk⟩, ⟨_, upd_same, dns_app (dl.same fk) (.cons (dn.same fk) .nil)⟩, x.sep⟩
theorem Hst.que {lv : List V} {v : V} {d : PyData} (x : Hst K C H h st ad) (e : H ad.Lq = some (.lst lv)) (dl : Dns K (fz H) lv st.qu) (dn : Dn K (fz H) v d) : Hst K C (upd H ad.Lq (.lst (lv ++ [v]))) h { st with qu := st.qu ++ [d] } ad := by
  have fk := fz_keep ((FzK.refl H).upd (w := .lst (lv ++ [v])) e (fun _ _ z => nomatch z))
  obtain ⟨v2, a2, b2⟩ := x.an
  obtain ⟨v3, a3, b3⟩ := x.lg
  obtain ⟨s1, s2, s3, s4, s5, s6⟩ := x.sep
  exact ⟨(upd_ne (ne_of x.at_ e (fun z => nomatch z))).trans x.at_, (upd_ne s2).trans x.lk, ⟨v3, (upd_ne s4).trans a3, b3.same fk⟩, x.jn.same fk, ⟨_, upd_same, dns_app (dl.same fk) (.cons (dn.same fk) .nil)⟩, ⟨v2, (upd_ne s6.symm).trans a2, b2.same fk⟩, x.sep⟩
/-- where the changes of an act are -/
structure Ac (K : PySem.W.Frag) (C : Addr) (h : Addr) (ad : HA) (H H' : Hp) (st' : HS) (ad' : HA) : Prop where
  off : OffA h ad H H'
  nw : NewA H ad ad'
  fk : FzK H H'
  hx : Hst K C H' h st' ad'
theorem Ac.trans (a : Ac K C h ad H H1 st1 ad1) (b : Ac K C h ad1 H1 H2 st2 ad2) : Ac K C h ad H H2 st2 ad2 := ⟨a.off.trans a.nw b.off, NewA.trans a.off a.nw b.nw, a.fk.trans b.fk, b.hx⟩
theorem Ac.same (a : Ac K C h ad H H1 st1 ad1) (s : Same H1 H2) : Ac K C h ad H H2 st1 ad1 := a.trans ⟨OffA.same s, NewA.refl, FzK.of s, a.hx.same s⟩
theorem Ac.refl (x : Hst K C H h st ad) : Ac K C h ad H H st ad := ⟨OffA.refl, NewA.refl, FzK.refl H, x⟩
theorem Ac.back (s : Same H H1) (b : Ac K C h ad H1 H2 st2 ad2) : Ac K C h ad H H2 st2 ad2 := ⟨(OffA.same s).trans NewA.refl b.off, NewA.trans (h := h) (OffA.same s) NewA.refl b.nw, (FzK.of s).trans b.fk, b.hx⟩
theorem Ac.keep (a : Ac K C h ad H H1 st1 ad1) {L : Addr} {o : HO} (e : H L = some o) (n : L ≠ h ∧ L ≠ ad.Ll ∧ L ≠ ad.Lq ∧ L ≠ ad.La) : H1 L = some o := a.off.st _ _ e n.1 n.2.1 n.2.2.1 n.2.2.2
/-- what is new is none of its parts -/
theorem Hst.nes (x : Hst K C H h st ad) {L : Addr} (n : H L = none) : L ≠ h ∧ L ≠ ad.Ll ∧ L ≠ ad.Lq ∧ L ≠ ad.La := by
  obtain ⟨_, a, _⟩ := x.lg
  obtain ⟨_, b, _⟩ := x.qu
  obtain ⟨_, c, _⟩ := x.an
  exact ⟨(ne_of_none x.at_ n).symm, (ne_of_none a n).symm, (ne_of_none b n).symm, (ne_of_none c n).symm⟩
theorem add_len (o : Option Str) (st : HS) : (addS o st).lk.length ≤ st.lk.length + 1 := by
  cases o with
  | none => exact Nat.le_succ _
  | some y =>
    show (srt (st.lk ++ [y])).length ≤ _
    rw [srt_len, List.length_append]
    exact Nat.le_refl _
theorem rm_len (o : Option Str) (st : HS) : (rmS o st).lk.length ≤ st.lk.length := by
  cases o with
  | none => exact Nat.le_refl _
  | some y => exact List.length_filter_le _ _
theorem rm_an (o : Option Str) (st : HS) : (rmS o st).an = st.an := by cases o <;> rfl
theorem add_an (o : Option Str) (st : HS) : (addS o st).an = st.an := by cases o <;> rfl
def spAct (K : PySem.W.Frag) (C : Addr) (PQ : Sp) : Sp := fun vs H Q E => ∃ (h ra pa : Addr) (xs : List Str) (c j : Nat) (kd : Str) (st : HS) (ad : HA), vs = [.ref h, .ref ra, .str kd] ∧ Hst K C H h st ad ∧ OnR H ra pa xs c j st.nm ∧ decide (kd ∈ KINDS) = true ∧ recv xs c j kd = true ∧ st.lk.length < 50 ∧ st.an.length ≤ 1000 ∧ (∀ xs c, st.jn = some (xs, c) → 0 < xs.length) ∧
  ∀ H' ad', Ac K C h ad H H' (actS xs c (stepR xs c j kd) st) ad' → ∀ L us, H L = none → H' L = some (.lst us) → Dns K (fz H') us ((stepR xs c j kd).sends.map (ctlD xs c)) → ((stepR xs c j kd).ph ≠ "free" → Q (.ref L) H') ∧
    ((stepR xs c j kd).ph = "free" → PQ [.ref h, optV (awt st)] H' (fun v H2 => rCat (.ref L) v H2 Q) E0)
theorem le2 {n : Nat} (h : Nat.ble n 2 = true) : n ≤ 2 := Nat.le_of_ble_eq_true h
theorem stepR_len (xs : List Str) (c j : Nat) (kd : Str) : (stepR xs c j kd).sends.length ≤ 2 := by
  unfold stepR
  split
  · unfold askS
    split <;> exact le2 (by rfl)
  split
  · unfold noS
    split <;> exact le2 (by rfl)
  split
  · unfold yesS
    split
    · unfold firstS
      split <;> exact le2 (by rfl)
    · exact le2 (by rfl)
  split
  · unfold goS
    split
    · exact le2 (by rfl)
    split
    · exact le2 (by rfl)
    split <;> exact le2 (by rfl)
  · unfold backS
    split <;> exact le2 (by rfl)
theorem ok_act {f kq : Addr} {n : Nat} {fd : FuncData} {PQ : Sp} (F : Fun K "act" "Host.act" m_act f fd) (T : Ch K C) (hn : n ≤ 9)
    (G_control_step : Fk P w K mg base (L2.CX P w) 7 "control_step" ["relink", "host", "kind"] (spCtl K CR CU CS)) (M_waits_for : Fm P w K mg base CX0 1 C "waits_for" ["self"] (spWait K C)) (M_join_to : Fm P w K mg base CX0 1 C "join_to" ["self", "other"] (spJoin K C)) (M_part_from : Fm P w K mg base CX0 1 C "part_from" ["self", "other"] (spPart K C))
    (M_process_queue : Fm P w K mg base CX0 n C "process_queue" ["self", "awaited"] PQ) : FnOk P w K mg base CX0 10 f fd ["self", "relink", "kind"] (spAct K C PQ) := by
  obtain ⟨_, _, MM_waits_for, MB_waits_for, MF_waits_for⟩ := M_waits_for.ex
  obtain ⟨_, _, MM_join_to, MB_join_to, MF_join_to⟩ := M_join_to.ex
  obtain ⟨_, _, MM_part_from, MB_part_from, MF_part_from⟩ := M_part_from.ex
  obtain ⟨_, _, MM_process_queue, MB_process_queue, MF_process_queue⟩ := M_process_queue.ex
  refine F.ok scm_act (fun vs H Q E h => ?_) (fun cdv A outer s H vs Q E hr h => ?_)
  · obtain ⟨h, ra, pa, xs, c, j, kd, st, ad, rfl, _⟩ := h
    rfl
  · obtain ⟨h, ra, pa, xs, c, j, kd, st, ad, rfl, x, on, kk, rc, few, anl, l0, q⟩ := h
    refine ⟨_, (pss_cons (ps_asg (pe_callF (E := fun _ _ _ => False) G_control_step (hr.mono (by decide)) (by rfl) passN (pa_cons (pv 1) (pa_cons (pe_fld (pv 0) rfl) (pa_cons (pv 2) pa_nil)))) (pg_tup (by rfl) (pgs_cons (pg_name (i := 3) scm_act.nd rfl (Or.inl rfl)) (pgs_cons (pg_name (i := 4) scm_act.nd rfl (Or.inl rfl)) (pgs_cons (pg_name (i := 5) scm_act.nd rfl (Or.inl rfl)) (pgs_cons (pg_name (i := 6) scm_act.nd rfl (Or.inl rfl)) (pgs_cons (pg_name (i := 7) scm_act.nd rfl (Or.inl rfl)) pgs_nil)))))))
 (pss_cons (ps_set (i := 8) scm_act.nd rfl (.inl rfl) (pe_meth0 (pv 0) T.cl MM_waits_for MF_waits_for (hr.mono (by decide)) MB_waits_for .nil pass0))
 (pss_cons (ps_if (pt_cmpR op_notN (pv 5) pe_non (nomark _))
 (pss_one (ps_expr (pe_meth (pv 0) T.cl MM_join_to MF_join_to (hr.mono (by decide)) MB_join_to .nil pass0 (pa_cons (pv 5) pa_nil))))
 pss_nil)
 (pss_cons (ps_if (pt_cmpR op_notN (pv 6) pe_non (nomark _))
 (pss_one (ps_expr (pe_meth (pv 0) T.cl MM_part_from MF_part_from (hr.mono (by decide)) MB_part_from .nil pass0 (pa_cons (pv 6) pa_nil))))
 pss_nil)
 (pss_cons (ps_if (pt_cmpR op_notN (pv 7) pe_non (nomark _))
 (pss_one (ps_expr (pe_bm PySem.F.plainAttrs_list PySem.F.slot_list_append PySem.F.type_list_append mt_append (pe_fld (pv 0) rfl) (pa_cons (pe_tupZ (StX.pa_star (pv 1) (pa_cons (pv 7) pa_nil))) pa_nil))))
 pss_nil)
 (pss_cons (ps_fld (pv 0) (pv 4) rfl)
 (pss_cons (ps_fld (pv 0) (pe_ifExp (pt_cmpR op_eq (pv 4) pe_str (nomark _)) pe_non (pv 1)) rfl)
 (pss_cons (ps_setLc (i := 9) (own := [("goal", 10), ("step", 11)]) (g := gTup K 2 (gCons (gName 10) (gCons (gName 11) gNil))) (tt := tYes) rfl scm_act.nd rfl rfl (sw_true rfl rfl rfl (by decide +kernel)) (pi_list (pv 3)) (blkOk_by (N := ["self", "relink", "kind", "steps", "phase", "added", "removed", "outcome", "awaited", "sends", "goal", "step"]) (sc := defScope m_act) (by decide +kernel)) (fun _ _ _ _ _ => (pg_tup (by rfl) (pgs_cons (pg_name (i := 10) scm_act.nd rfl (Or.inl rfl)) (pgs_cons (pg_name (i := 11) scm_act.nd rfl (Or.inl rfl)) pgs_nil)))) (fun _ _ _ _ _ => pts_nil) (fun _ _ _ _ _ => (pe_tupZ (pa_cons (pv 10) (pa_cons (pe_tupZ (pa_cons (pv 11) (show PA _ _ (StX.tStar K (tVar 1) tNil) from StX.pa_star (pv 1) pa_nil))) pa_nil)))))
 (pss_one (ps_ret (pe_ifExp (pt_cmpR op_notN (pe_fld (pv 0) rfl) pe_non (nomark _)) (pv 9) (pe_op op_cat (pv 9) (pe_meth (pv 0) T.cl MM_process_queue MF_process_queue (hr.mono hn) MB_process_queue .nil pass0 (pa_cons (pv 8) pa_nil)))))))))))))), ?_⟩
    -- the step
    refine ⟨_, rfl, _, rfl, h, C, ad.dx, _, _, rfl, x.at_, T.cl, T.n1, rfl, _, rfl, .ref ra, .str st.nm, .str kd, reld xs c, .str st.nm, .str kd, rfl, dn_reld on.on.ra on.on.pa, on.sm, .str _, (a0_nm on.nn).sm, .str _, (fun z => absurd (on.ir.symm.trans z) (by decide)), fun xs' c' ed _ => ?_⟩
    obtain ⟨rfl, rfl⟩ := reld_inj ed
    refine ⟨fun z => absurd (on.ps.symm.trans z) (fun z => nomatch z), fun j' hj => ?_⟩
    obtain rfl : j = j' := by
      rw [on.ps] at hj
      injection hj
    have gk : goodK xs c j (.str kd) = some kd := by
      show (if (decide (kd ∈ KINDS) && recv xs c j kd) = true then some kd else none) = some kd
      rw [kk, rc]
      rfl
    refine ⟨fun kd' ek H1 t L s1 nL at_ => ?_, fun z => absurd (gk.symm.trans z) (fun z => nomatch z)⟩
    obtain rfl : kd = kd' := by
      rw [gk] at ek
      injection ek
    have sl := stepR_len xs c j kd
    generalize stepR xs c j kd = r at at_ q sl
    obtain ⟨tz, ts, eL, pr⟩ := at_
    have x1 := x.same s1
    have on1 := on.same s1
    have nes := x.nes nL
    refine ⟨t, _, rfl, tz.sq, rfl, _, _, rfl, _, _, rfl, _, _, rfl, _, _, rfl, _, _, rfl, rfl, ?_⟩
    refine ⟨_, rfl, h, ad.dx, _, rfl, x1.at_, (by rfl), h, st, ad, rfl, x1, l0, ?_⟩
    dsimp only
    -- a link more
    refine sq_by (fun H' => ∃ ad', Ac K C h ad H1 H' (addS r.ad st) ad') (fun R hR => ?_) (fun H2 hS => ?_)
    · cases ea : r.ad with
      | none =>
        rw [ea] at hR
        exact ⟨_, rfl, rfl, _, rfl, iteF (hR _ ⟨ad, Ac.refl x1⟩)⟩
      | some y =>
        rw [ea] at hR
        refine ⟨_, rfl, rfl, _, rfl, iteT ⟨_, rfl, h, ad.dx, _, rfl, x1.at_, (by rfl), _, rfl, h, y, st, ad, rfl, x1, by omega, fun H2 Lk' ys off fk nk hx pm srt => ?_⟩⟩
        obtain rfl := srt_of pm srt
        exact hR _ ⟨{ ad with Lk := Lk' }, OffA.of off hx, ⟨.inr nk, .inl rfl, .inl rfl, .inl rfl⟩, fk, hx⟩
    obtain ⟨ad2, a2⟩ := hS
    have al := add_len r.ad st
    -- a link less
    refine sq_by (fun H' => ∃ ad', Ac K C h ad H1 H' (rmS r.rm (addS r.ad st)) ad') (fun R hR => ?_) (fun H3 hS => ?_)
    · cases ea : r.rm with
      | none =>
        rw [ea] at hR
        exact ⟨_, rfl, rfl, _, rfl, iteF (hR _ ⟨ad2, a2⟩)⟩
      | some y =>
        rw [ea] at hR
        refine ⟨_, rfl, rfl, _, rfl, iteT ⟨_, rfl, h, ad2.dx, _, rfl, a2.hx.at_, (by rfl), _, rfl, h, y, _, ad2, rfl, a2.hx, by omega, fun H3 Lk' off fk nk hx => ?_⟩⟩
        exact hR _ ⟨{ ad2 with Lk := Lk' }, a2.trans ⟨OffA.of off hx, ⟨.inr nk, .inl rfl, .inl rfl, .inl rfl⟩, fk, hx⟩⟩
    obtain ⟨ad3, a3⟩ := hS
    clear a2
    -- an answer
    refine sq_by (fun H' => ∃ ad', Ac K C h ad H1 H' (ocS xs c r.oc (rmS r.rm (addS r.ad st))) ad') (fun R hR => ?_) (fun H4 hS => ?_)
    · cases ea : r.oc with
      | none =>
        rw [ea] at hR
        exact ⟨_, rfl, rfl, _, rfl, iteF (hR _ ⟨ad3, a3⟩)⟩
      | some y =>
        rw [ea] at hR
        have on3 := on1.fzk a3.fk
        obtain ⟨lv, el, dl⟩ := a3.hx.an
        have ll := Dns.len dl
        rw [rm_an, add_an] at ll
        refine ⟨_, rfl, rfl, _, rfl, iteT ⟨_, rfl, h, C, ad3.dx, _, _, rfl, a3.hx.at_, T.cl, T.n7, rfl, .inl ⟨rfl, _, SqL.of el⟩, _, rfl, ra, _, rfl, .inl on3.on.ra.sq, _, rfl, (by show 3 ≤ sizeLine; decide), fun t1 o1 nt1 s1' z1 => ?_⟩⟩
        generalize upd H3 t1 o1 = H3' at s1' z1 ⊢
        have a3' := a3.same s1'
        have el' := s1' _ _ el
        refine ⟨ad3.La, lv, .ref t1, rfl, rfl, el', (by rw [sizeLine_eq]; omega), hR _ ⟨ad3, a3'.trans ⟨⟨fun b u e n1 n2 n3 n4 => (upd_ne n4).trans e, fun b n => ?_⟩, NewA.refl, (FzK.refl _).upd el' (fun _ _ z => nomatch z), a3'.hx.ans el' (dl.same (fz_keep (FzK.of s1'))) (.tup (Tz.fz z1) (.cons (.tup (Tz.fz (on3.on.pa.same s1')) (dns_strs' xs)) (.cons (.int _) (.cons (.str y) .nil))))⟩⟩⟩
        by_cases e : b = ad3.La
        · rw [e, upd_same] at n
          cases n
        · rw [upd_ne e] at n
          exact n
    obtain ⟨ad4, a4⟩ := hS
    clear a3
    -- the phase, the relink
    have on4 := on1.fzk a4.fk
    have x4 := a4.hx
    refine ⟨_, rfl, _, rfl, h, C, _, _, rfl, x4.at_, T.cl, T.n5, (by show 7 < 1000; decide), ?_⟩
    dsimp only [tSeq, sFld]
    refine te_use (v := if r.ph = "free" then V.non else V.ref ra) ?_ (fun Q' hq => ?_)
    rotate_left
    · refine ⟨_, rfl, rfl, _, rfl, ite2 (fun c1 => ?_) (fun c1 => ?_)⟩
      · have c1' : r.ph = "free" := by
          have z := of_decide_eq_true c1
          injection z
        rw [if_pos c1'] at hq
        exact hq
      · have c1' : ¬ r.ph = "free" := fun z => c1 (decide_eq_true (by rw [z]))
        rw [if_neg c1'] at hq
        exact ⟨_, rfl, hq⟩
    refine ⟨_, rfl, h, C, _, _, rfl, upd_same, T.cl, T.n4, (by show 7 < 1000; decide), ?_⟩
    rw [upd_upd]
    have jd : Jnd (fz H4) (if r.ph = "free" then V.non else V.ref ra) (if r.ph = "free" then none else some (xs, c)) := by
      by_cases e : r.ph = "free"
      · rw [if_pos e, if_pos e]
        rfl
      · rw [if_neg e, if_neg e]
        exact ⟨ra, pa, rfl, Tz.fz on4.on.ra, Tz.fz on4.on.pa⟩
    have x5 : Hst K C _ h (actS xs c r st) { ad4 with jv := if r.ph = "free" then V.non else V.ref ra } := x4.put (sg := r.ph) jd
    have o5 : Off h H4 (upd H4 h (.ins C ad4.dx [("own_name", .str (ocS xs c r.oc (rmS r.rm (addS r.ad st))).nm), ("linked", .ref ad4.Lk), ("logged", .ref ad4.Ll), ("joined", if r.ph = "free" then V.non else V.ref ra), ("stage", .str r.ph), ("queued", .ref ad4.Lq), ("finished", .ref ad4.La)])) := (Off.refl h H4).upd
    have a5 : Ac K C h ad H1 _ (actS xs c r st) { ad4 with jv := if r.ph = "free" then V.non else V.ref ra } := a4.trans ⟨OffA.of o5 x5, ⟨.inl rfl, .inl rfl, .inl rfl, .inl rfl⟩, FzK.off x4.at_ o5, x5⟩
    rw [show putF "joined" (if r.ph = "free" then V.non else V.ref ra) (putF "stage" (.str r.ph) ([("own_name", .str (ocS xs c r.oc (rmS r.rm (addS r.ad st))).nm), ("linked", .ref ad4.Lk), ("logged", .ref ad4.Ll), ("joined", ad4.jv), ("stage", .str (ocS xs c r.oc (rmS r.rm (addS r.ad st))).sg), ("queued", .ref ad4.Lq), ("finished", .ref ad4.La)] : List (Str × V))) = ([("own_name", .str (ocS xs c r.oc (rmS r.rm (addS r.ad st))).nm), ("linked", .ref ad4.Lk), ("logged", .ref ad4.Ll), ("joined", if r.ph = "free" then V.non else V.ref ra), ("stage", .str r.ph), ("queued", .ref ad4.Lq), ("finished", .ref ad4.La)] : List (Str × V)) from rfl]
    generalize upd H4 h (.ins C ad4.dx [("own_name", .str (ocS xs c r.oc (rmS r.rm (addS r.ad st))).nm), ("linked", .ref ad4.Lk), ("logged", .ref ad4.Ll), ("joined", if r.ph = "free" then V.non else V.ref ra), ("stage", .str r.ph), ("queued", .ref ad4.Lq), ("finished", .ref ad4.La)]) = H5 at a5 ⊢
    clear x5 o5 x4 jd a4 on4
    -- what is sent
    have eL5 : H5 L = some (.lst (ts.map V.ref)) := a5.keep eL nes
    have pr5 := pr.fzk a5.fk
    have on5 := on1.fzk a5.fk
    have tl := pr5.len
    refine ⟨_, rfl, L, rfl, ⟨_, SqL.of eL5⟩, fun D nD => ?_⟩
    have nD0 : H D = none := same_no s1 (a5.off.dm _ nD)
    refine lc_it (walk_list (K := K) (a := L) (xs := ts.map V.ref)) (fun i H' => Same H5 H' ∧ ∃ us, H' D = some (.lst us) ∧ Dns K (fz H') us ((r.sends.take i).map (ctlD xs c)))
      ⟨same_upd nD, [], upd_same, .nil⟩ (fun i H' _ hI => SqL.of (hI.1 _ _ eL5)) ?_ ?_
    · rintro i y H6 H7 hi ⟨s6, us, hD, du⟩ ⟨rfl, hy⟩
      obtain ⟨t1, p, rfl, hp, tz1⟩ := prs_get (pr5.fzk (FzK.of s6)) hy
      have lu := Dns.len du
      rw [List.length_map, List.length_take] at lu
      have on6 := on5.same s6
      refine ⟨t1, _, rfl, tz1.sq, rfl, _, _, rfl, _, _, rfl, rfl, rfl, ?_⟩
      dsimp only [tYes]
      refine iteT ?_
      refine ⟨_, rfl, _, rfl, _, rfl, ra, _, rfl, .inl on6.on.ra.sq, (by show 3 ≤ sizeLine; decide), fun t2 o2 n2 s7 z7 => ?_⟩
      generalize upd _ t2 o2 = H7 at s7 z7 ⊢
      refine ⟨(by show 2 ≤ sizeLine; decide), fun t3 o3 n3 s8 z8 => ?_⟩
      generalize upd H7 t3 o3 = H8 at s8 z8 ⊢
      have s68 := s7.trans s8
      have hD8 := s68 _ _ hD
      have fk := fz_keep ((FzK.refl H8).upd (w := .lst (us ++ [.ref t3])) hD8 (fun _ _ z => nomatch z))
      refine ⟨_, hD8, small200 (by omega), same_upd2 (s6.trans s68) nD, us ++ [.ref t3], upd_same, ?_⟩
      rw [List.take_add_one, hp, List.map_append]
      refine dns_app ((du.same (fz_keep (FzK.of s68))).same fk) (.cons (Dn.same fk ?_) .nil)
      exact .tup (Tz.fz z8) (.cons (.str _) (.cons (.tup (Tz.fz (z7.same s8)) (.cons (.str _) (.cons (.tup (Tz.fz (on6.on.pa.same s68)) (dns_strs' xs)) (.cons (.int _) .nil)))) .nil))
    · rintro H6 ⟨s6, us, hD, du⟩
      rw [List.length_map, tl, List.take_of_length_le (Nat.le_refl _)] at du
      have a6 := (a5.same s6).back s1
      obtain ⟨q1, q2⟩ := q _ _ a6 D us nD0 hD du
      refine ⟨_, rfl, h, C, _, _, _, rfl, a6.hx.at_, T.cl, T.n4, rfl, rfl, _, rfl, ?_⟩
      by_cases e : r.ph = "free"
      · rw [if_pos e]
        refine iteF ⟨_, rfl, _, rfl, h, _, _, rfl, a6.hx.at_, (by rfl), _, rfl, q2 e⟩
      · rw [if_neg e]
        exact iteT ⟨_, rfl, q1 e⟩
end
end My

namespace My
open PySem PySem.Spec PyProof.Rows L2 Gy Xl Xs Xt Xo Xp
section
variable {P : Program} {w : World} {K : PySem.W.Frag} {mg : Str → Option Value} {base : Heap} {H : Hp} {C CR CU CW CB CD CN CI : Addr}
/-- a method that may be asked without its last two arguments -/
structure FmD (P : Program) (w : World) (K : PySem.W.Frag) (mg : Str → Option Value) (base : Heap) (CX : CXT) (k : Nat) (C : Addr) (nm : Str) (ps : List Str) (dvs : List V) (sp : Sp) : Prop where
  ex : ∃ (f : Addr) (fd : FuncData) (ds : List Value), Meth K C nm f ∧ Vals dvs ds ∧ Binds K fd ps ds ∧ FnOk P w K mg base CX k f fd ps sp
def spWrite (K : PySem.W.Frag) (C CW : Addr) : Sp := fun vs H Q E => ∃ (h : Addr) (v : V) (st : HS) (ad : HA), vs = [.ref h, v] ∧ Kd K H v ∧ Hst K C H h st ad ∧ st.lk.length ≤ 20 ∧ sortedS st.lk = true ∧ st.lg.length ≤ 1000 ∧ JnOk st ∧ Nm st.nm ∧ (textOf v WSG 12 = false → Ro E CW "value" v H) ∧
  ∀ x, v = .str x → textOf v WSG 12 = true → ∀ H' L us, (∀ y o, H y = some o → y ≠ ad.Ll → H' y = some o) → Hst K C H' h { st with lg := st.lg ++ [logD st.nm x] } ad → H L = none → H' L = some (.lst us) → Dns K (fz H') us ((outs st none 0).map (sendD st.nm x)) → Q (.ref L) H'
theorem ok_write {f : Addr} {fd : FuncData} (F : Fun K "write" "Host.write" m_write f fd) (Y : Bn mg) (T : Ch K C) (R : Rz P w K mg base "InvalidWord" "value" CW) (G_is_word : Fk P w K mg base CX0 2 "is_word" ["value"] (spWord K)) (M_laf : FmD P w K mg base CX0 9 C "log_and_forward" ["self", "writer", "word", "source", "bit"] [.non, .int 0] (spLAF K C)) : FnOk P w K mg base (L2.CX P w) 10 f fd ["self", "word"] (spWrite K C CW) := by
  obtain ⟨fI, fdI, XI, GI, bI⟩ := R.ex
  obtain ⟨_, _, _, MM_laf, MV_laf, MB_laf, MF_laf⟩ := M_laf.ex
  refine F.okX scm_write (fun vs H Q E h => ?_) (fun cdv A outer s H vs Q E hr h => ?_)
  · obtain ⟨h, v, st, ad, rfl, _⟩ := h
    rfl
  · obtain ⟨h, v, st, ad, rfl, kd, x, l20, srt, lgl, jok, nnm, q1, q2⟩ := h
    refine ⟨_, (pss_cons (ps_if (pt_not (pt_val (pe_callF G_is_word (hr.mono (by decide)) (by rfl) pass0 (pa_cons (pv 1) pa_nil))))
 (pss_one (ps_raise1 rfl (takes_of rfl rfl rfl rfl) XI R.ty GI (hr.mono (by decide)) bI (by rfl) R.gm (pa_cons (pv 1) pa_nil)))
 pss_nil)
 (pss_one (ps_ret (pe_meth (pv 0) T.cl MM_laf MF_laf (hr.mono (by decide)) MB_laf MV_laf pass0 (pa_cons (pe_fld (pv 0) rfl) (pa_cons (pv 1) pa_nil)))))), ?_⟩
    refine ⟨_, rfl, v, rfl, kd, fun H1 s1 => ⟨_, rfl, ?_⟩⟩
    cases t1 : textOf v WSG 12 with
    | false => exact iteT ⟨_, rfl, _, rfl, fun ex nd => q1 t1 _ ex (s1.trans (same_upd nd)) upd_same⟩
    | true =>
    obtain ⟨z, rfl⟩ := text_str' t1
    have x1 := x.same s1
    refine iteF ⟨_, rfl, h, ad.dx, _, rfl, x1.at_, (by rfl), _, rfl, h, C, ad.dx, _, _, rfl, x1.at_, T.cl, T.n1, rfl, _, rfl, ?_⟩
    refine ⟨h, st.nm, z, none, 0, st, ad, rfl, x1, l20, srt, lgl, jok, nnm, fun H2 L us fr hx nL hL du => ?_⟩
    exact q2 z rfl t1 H2 L us (fun y o e n => fr _ _ (s1 _ _ e) n) hx (same_no s1 nL) hL du



def spAsk (K : PySem.W.Frag) (C CR CB CD : Addr) : Sp := fun vs H Q E => ∃ (h : Addr) (v1 v2 : V) (d1 d2 : PyData) (st : HS) (ad : HA), vs = [.ref h, v1, v2] ∧ Dn K H v1 d1 ∧ Dn K H v2 d2 ∧ sml (.tuple [d1, d2]) = true ∧ Hst K C H h st ad ∧ st.lk.length ≤ 60 ∧
  ((isRel (.tuple [d1, d2]) = false ∨ ∃ xs c, PyData.tuple [d1, d2] = reld xs c ∧ xs.head? ≠ some st.nm) → ∀ H' dx t, Same H H' → Tz H' t [v1, v2] → H' dx = some (.xd [("value", .ref t)]) → E (.ref CR) (some dx) H') ∧
  ∀ xs c, PyData.tuple [d1, d2] = reld xs c → isRel (reld xs c) = true → xs.head? = some st.nm → (st.jn ≠ none → Ro E CB "host" (.str st.nm) H) ∧
    (st.jn = none → ∀ x1, xs[1]? = some x1 → (x1 ∉ st.lk → Ro2 E CD "host" "other" (.str st.nm) (.str x1) H) ∧
      (x1 ∈ st.lk → ∀ H' jv L t u, Off h H H' → FzK H H' → Hst K C H' h { st with jn := some (xs, c), sg := "reserved" } { ad with jv := jv } → H L = none → H' L = some (.lst [.ref t]) → Tz H' t [.str x1, .ref u] → Tz H' u [.str "ask", v1, v2] → Q (.ref L) H'))
theorem ap_0 {x0 x1 : Str} {r : List Str} : atI ((x0 :: x1 :: r).map V.str) 0 = some (.str x0) := atI_nat (j := 0) rfl
theorem ap_1 {x0 x1 : Str} {r : List Str} : atI ((x0 :: x1 :: r).map V.str) 1 = some (.str x1) := atI_nat (j := 1) rfl
theorem three_of {xs : List Str} (h : 3 ≤ xs.length) : ∃ (x0 x1 : Str) (r : List Str), xs = x0 :: x1 :: r := by
  cases xs with
  | nil => exact absurd h (by decide)
  | cons a t =>
    cases t with
    | nil => exact absurd h (by show ¬ 3 ≤ 1; decide)
    | cons b r => exact ⟨a, b, r, rfl⟩
theorem ask_pair {v1 v2 : V} {d1 d2 : PyData} (ir : isRel (.tuple [d1, d2]) = true) (h1 : Dn K H v1 d1) (h2 : Dn K H v2 d2) : ∃ (x0 x1 : Str) (r : List Str) (c : Nat) (b : Addr), PyData.tuple [d1, d2] = reld (x0 :: x1 :: r) c ∧ v1 = .ref b ∧ v2 = .int (c : Int) ∧ Tz H b ((x0 :: x1 :: r).map V.str) := by
  obtain ⟨xs, c, e, l3, _⟩ := rel_parts ir
  have e0 := e
  unfold reld at e
  injection e with e
  injection e with e1 e2
  injection e2 with e2 _
  subst e1 e2
  cases h2
  cases h1 with
  | tup hb hx =>
    have e := Dns.txts hx
    subst e
    obtain ⟨x0, x1, r, ex⟩ := three_of l3
    subst ex
    exact ⟨x0, x1, r, c, _, e0, rfl, rfl, hb⟩
theorem ok_ask {f : Addr} {fd : FuncData} (F : Fun K "ask" "Host.ask" m_ask f fd) (Y : Bn mg) (T : Ch K C) (R : Rz P w K mg base "InvalidRelink" "value" CR) (R2 : Rz2 P w K mg base "NotLinked" "host" "other" CD) (G_is_relink : Fk P w K mg base CX0 4 "is_relink" ["value"] (spRel K))
    (M_check_free : Fm P w K mg base (L2.CX P w) 3 C "check_free" ["self"] (spCF K C CB)) : FnOk P w K mg base (L2.CX P w) 6 f fd ["self", "path", "cut"] (spAsk K C CR CB CD) := by
  obtain ⟨fI, fdI, XI, GI, bI⟩ := R.ex
  obtain ⟨fI2, fdI2, XI2, GI2, bI2⟩ := R2.ex
  obtain ⟨_, _, MM_check_free, MB_check_free, MF_check_free⟩ := M_check_free.ex
  refine F.okX scm_ask (fun vs H Q E h => ?_) (fun cdv A outer s H vs Q E hr h => ?_)
  · obtain ⟨h, v1, v2, d1, d2, st, ad, rfl, _⟩ := h
    rfl
  · obtain ⟨h, v1, v2, d1, d2, st, ad, rfl, dn1, dn2, sm, x, few, q1, q2⟩ := h
    refine ⟨_, (pss_cons (ps_set (i := 3) scm_ask.nd rfl (.inl rfl) (pe_tupZ (pa_cons (pv 1) (pa_cons (pv 2) pa_nil))))
 (pss_cons (ps_if (PW.pt (pw_or (pt_not (pt_val (pe_callF G_is_relink (hr.mono (by decide)) (by rfl) pass0 (pa_cons (pv 3) pa_nil)))) (pw_or1 (pt_cmpR op_ne (pe_ix ix_tup (pv 1) pe_int (fun _ _ => rfl)) (pe_fld (pv 0) rfl) (nomark _)))))
 (pss_one (ps_raise1 rfl (takes_of rfl rfl rfl rfl) XI R.ty GI (hr.mono (by decide)) bI (by rfl) R.gm (pa_cons (pv 3) pa_nil)))
 pss_nil)
 (pss_cons (ps_expr (pe_meth0 (pv 0) T.cl MM_check_free MF_check_free (hr.mono (by decide)) MB_check_free .nil (passes_call (E := E) (takes_of rfl rfl rfl rfl) (fun _ _ _ _ h => h))))
 (pss_cons (ps_if (pt_cmpR op_notIn_seq (pe_ix ix_tup (pv 1) pe_int (fun _ _ => rfl)) (pe_fld (pv 0) rfl) rfl)
 (pss_one (ps_raise2 rfl (takes_of rfl rfl rfl rfl) XI2 R2.ty GI2 (hr.mono (by decide)) bI2 (by rfl) R2.gm (pa_cons (pe_fld (pv 0) rfl) (pa_cons (pe_ix ix_tup (pv 1) pe_int (fun _ _ => rfl)) pa_nil))))
 pss_nil)
 (pss_cons (ps_fld (pv 0) (pv 3) rfl)
 (pss_cons (ps_fld (pv 0) pe_str rfl)
 (pss_one (ps_ret (pe_lst (pa_cons (pe_tupZ (pa_cons (pe_ix ix_tup (pv 1) pe_int (fun _ _ => rfl)) (pa_cons (pe_tupZ (pa_cons pe_str (pa_cons (pv 1) (pa_cons (pv 2) pa_nil)))) pa_nil))) pa_nil)))))))))), ?_⟩
    refine ⟨_, rfl, _, rfl, (by show 2 ≤ sizeLine; decide), fun t o nt s1 z1 => ?_⟩
    generalize upd H t o = H1 at s1 z1 ⊢
    refine ⟨_, rfl, .ref t, .tuple [d1, d2], rfl, .tup z1 (.cons (dn1.same s1) (.cons (dn2.same s1) .nil)), sm, fun H2 s2 => ⟨_, rfl, ?_⟩⟩
    have s02 : Same H H2 := s1.trans s2
    have x2 := x.same s02
    have z2 := z1.same s2
    cases ir : isRel (.tuple [d1, d2]) with
    | false => exact iteT (iteT ⟨_, rfl, _, rfl, fun ex nd => q1 (.inl ir) _ ex t (s02.trans (same_upd nd)) (z2.same (same_upd nd)) upd_same⟩)
    | true =>
    obtain ⟨x0, x1, rest, c, b, e, e1, e2, zb0⟩ := ask_pair ir dn1 dn2
    subst e1 e2
    have za := z2
    have zb := zb0.same s02
    rw [e] at ir
    refine iteF ?_
    refine ⟨_, rfl, b, _, 0, .str x0, rfl, rfl, zb.sq, ap_0, _, rfl, h, C, ad.dx, _, _, rfl, x2.at_, T.cl, T.n1, rfl, rfl, _, rfl, ?_⟩
    by_cases en : x0 = st.nm
    · rw [decide_eq_true (show V.str x0 = V.str st.nm by rw [en])]
      refine iteF ?_
      obtain ⟨q3, q4⟩ := q2 _ c e ir (by show some x0 = _; rw [en])
      refine ⟨_, rfl, h, ad.dx, _, rfl, x2.at_, (by rfl), h, st, ad, rfl, x2, fun ej => ?_, fun nj => (q3 nj).same s02⟩
      obtain ⟨q5, q6⟩ := q4 ej x1 rfl
      refine ⟨_, rfl, b, _, 1, .str x1, rfl, rfl, zb.sq, ap_1, _, rfl, h, C, ad.dx, _, _, rfl, x2.at_, T.cl, T.n2, rfl, ad.Lk, _, rfl, .inl (SqL.of x2.lk), rfl, flat_strs _, _, rfl, ?_⟩
      rw [if_pos rfl, inV_strs]
      by_cases m : x1 ∈ st.lk
      · rw [decide_eq_true m]
        refine iteF ?_
        refine ⟨_, rfl, _, rfl, h, C, ad.dx, _, rfl, x2.at_, T.cl, T.n4, (by show 7 < 1000; decide), ?_⟩
        refine ⟨_, rfl, h, C, ad.dx, _, rfl, upd_same, T.cl, T.n5, (by show 7 < 1000; decide), ?_⟩
        rw [upd_upd]
        have o3 : Off h H (upd H2 h (.ins C ad.dx [("own_name", .str st.nm), ("linked", .ref ad.Lk), ("logged", .ref ad.Ll), ("joined", .ref t), ("stage", .str "reserved"), ("queued", .ref ad.Lq), ("finished", .ref ad.La)])) := Off.upd fun b' u eb n => s02 _ _ eb
        have g3 : (upd H2 h (.ins C ad.dx [("own_name", .str st.nm), ("linked", .ref ad.Lk), ("logged", .ref ad.Ll), ("joined", .ref t), ("stage", .str "reserved"), ("queued", .ref ad.Lq), ("finished", .ref ad.La)])) h = some (.ins C ad.dx [("own_name", .str st.nm), ("linked", .ref ad.Lk), ("logged", .ref ad.Ll), ("joined", .ref t), ("stage", .str "reserved"), ("queued", .ref ad.Lq), ("finished", .ref ad.La)]) := upd_same
        have zt3 : Tz (upd H2 h (.ins C ad.dx [("own_name", .str st.nm), ("linked", .ref ad.Lk), ("logged", .ref ad.Ll), ("joined", .ref t), ("stage", .str "reserved"), ("queued", .ref ad.Lq), ("finished", .ref ad.La)])) t [.ref b, .int (c : Int)] := by
          obtain ⟨o, eo, r⟩ := za
          exact ⟨o, (upd_ne (ne_of eo x2.at_ (fun z => nomatch z))).trans eo, r⟩
        have zb3 : Tz (upd H2 h (.ins C ad.dx [("own_name", .str st.nm), ("linked", .ref ad.Lk), ("logged", .ref ad.Ll), ("joined", .ref t), ("stage", .str "reserved"), ("queued", .ref ad.Lq), ("finished", .ref ad.La)])) b ((x0 :: x1 :: rest).map V.str) := by
          obtain ⟨o, eo, r⟩ := zb
          exact ⟨o, (upd_ne (ne_of eo x2.at_ (fun z => nomatch z))).trans eo, r⟩
        rw [show putF "stage" (.str "reserved") (putF "joined" (.ref t) ([("own_name", .str st.nm), ("linked", .ref ad.Lk), ("logged", .ref ad.Ll), ("joined", ad.jv), ("stage", .str st.sg), ("queued", .ref ad.Lq), ("finished", .ref ad.La)] : List (Str × V))) = ([("own_name", .str st.nm), ("linked", .ref ad.Lk), ("logged", .ref ad.Ll), ("joined", .ref t), ("stage", .str "reserved"), ("queued", .ref ad.Lq), ("finished", .ref ad.La)] : List (Str × V)) from rfl]
        generalize upd H2 h (.ins C ad.dx [("own_name", .str st.nm), ("linked", .ref ad.Lk), ("logged", .ref ad.Ll), ("joined", .ref t), ("stage", .str "reserved"), ("queued", .ref ad.Lq), ("finished", .ref ad.La)]) = H3 at o3 g3 zt3 zb3 ⊢
        refine ⟨_, rfl, b, _, 1, .str x1, rfl, rfl, zb3.sq, ap_1, _, rfl, _, rfl, (by show 3 ≤ sizeLine; decide), fun t1 o1 n1 s4 y1 => ?_⟩
        generalize upd H3 t1 o1 = H4 at s4 y1 ⊢
        refine ⟨(by show 2 ≤ sizeLine; decide), fun t2 o2 n2 s5 y2 => ?_⟩
        generalize upd H4 t2 o2 = H5 at s5 y2 ⊢
        refine ⟨(by show 1 ≤ sizeLine; decide), fun L nL => ?_⟩
        have s6 := same_upd (o := .lst [.ref t2]) nL
        have s36 := (s4.trans s5).trans s6
        have o6 : Off h H (upd H5 L (.lst [.ref t2])) := fun b' u eb n => s36 _ _ (o3 _ _ eb n)
        have fk := FzK.off x.at_ o6
        obtain ⟨k1, k2, _, k4, k5⟩ := x.keep o6
        have nL0 : H L = none := o3.none g3 (same_no (s4.trans s5) nL)
        exact q6 m _ (.ref t) L t2 t1 o6 fk ⟨s36 _ _ g3, k1, k2, ⟨t, b, rfl, Tz.fz (zt3.same s36), Tz.fz (zb3.same s36)⟩, k4, k5, x.sep⟩ nL0 upd_same (y2.same s6) ((y1.same s5).same s6)
      · rw [decide_eq_false m]
        refine iteT ⟨_, rfl, h, C, ad.dx, _, _, rfl, x2.at_, T.cl, T.n1, rfl, _, rfl, b, _, 1, .str x1, rfl, rfl, zb.sq, ap_1, _, _, rfl, fun ex nd => ?_⟩
        exact q5 m _ ex (s02.trans (same_upd nd)) upd_same
    · rw [decide_eq_false (show ¬ V.str x0 = V.str st.nm from fun z => en (by injection z))]
      refine iteT ⟨_, rfl, _, rfl, fun ex nd => ?_⟩
      exact q1 (.inr ⟨_, c, e, fun z => en (by injection z)⟩) _ ex t (s02.trans (same_upd nd)) (z2.same (same_upd nd)) upd_same
end
end My

namespace My
open PySem PySem.Spec PyProof.Rows L2 Gy Xl Xs Xt Xo Xp
/-! ### a host receives an ask -/
/-- what it sends, and how it stands then -/
def askO (st : HS) (s : Str) (xs : List Str) (c j : Nat) : HS × List PyData :=
  if awt st = some s then ({ st with qu := st.qu ++ [ctlI "ask" xs c] }, []) else
  if canJ st xs j = true then (actS xs c (askS xs c j) st, (askS xs c j).sends.map (ctlD xs c)) else (st, [ctlD xs c (s, "no")])
def spNo : Sp := fun _ _ _ _ => False
section
variable {P : Program} {w : World} {K : PySem.W.Frag} {mg : Str → Option Value} {base : Heap} {H H1 H2 : Hp} {C CR CU CS CN CI : Addr}
/-- an ask at an address, to a host that is not the first one -/
structure AskAt (H : Hp) (ia pa : Addr) (xs : List Str) (c j : Nat) (nm : Str) : Prop where
  it : Tz H ia [.str "ask", .ref pa, .int (c : Int)]
  pa : Tz H pa (xs.map V.str)
  ir : isRel (reld xs c) = true
  sm : sml (reld xs c) = true
  ps : posn xs (.str nm) = some j
  nn : Nm nm
  j0 : j ≠ 0
theorem AskAt.same {ia pa : Addr} {xs : List Str} {c j : Nat} {nm : Str} (a : AskAt H ia pa xs c j nm) (s : Same H H1) : AskAt H1 ia pa xs c j nm := ⟨a.it.same s, a.pa.same s, a.ir, a.sm, a.ps, a.nn, a.j0⟩
theorem AskAt.onR {ia pa ra : Addr} {xs : List Str} {c j : Nat} {nm : Str} (a : AskAt H ia pa xs c j nm) (z : Tz H ra [.ref pa, .int (c : Int)]) : OnR H ra pa xs c j nm := by
  obtain ⟨xs', c', e, l3, nd, cl, _⟩ := rel_parts a.ir
  obtain ⟨rfl, rfl⟩ := reld_inj e
  exact ⟨⟨z, a.pa, l3, cl, posn_lt a.ps⟩, a.ir, a.sm, a.ps, a.nn⟩
theorem dn_ctlI {ia pa : Addr} {k : Str} {xs : List Str} {c : Nat} (a : Tz H ia [.str k, .ref pa, .int (c : Int)]) (b : Tz H pa (xs.map V.str)) : Dn K H (.ref ia) (ctlI k xs c) := .tup a (.cons (.str k) (.cons (.tup b (dns_strs' xs)) (.cons (.int _) .nil)))
def spAcc (K : PySem.W.Frag) (C : Addr) : Sp := fun vs H Q E => ∃ (h ia pa : Addr) (s : Str) (xs : List Str) (c j : Nat) (st : HS) (ad : HA), vs = [.ref h, .str s, .ref ia] ∧ Hst K C H h st ad ∧ AskAt H ia pa xs c j st.nm ∧ st.lk.length < 50 ∧ st.an.length ≤ 1000 ∧ st.qu.length ≤ 1000 ∧ (∀ xs c, st.jn = some (xs, c) → 0 < xs.length) ∧
  ∀ H' ad' L us, Ac K C h ad H H' (askO st s xs c j).1 ad' → H L = none → H' L = some (.lst us) → Dns K (fz H') us (askO st s xs c j).2 → Q (.ref L) H'
theorem ok_accept {f : Addr} {fd : FuncData} (F : Fun K "accept" "Host.accept" m_accept f fd) (Y : Bn mg) (T : Ch K C) (M_waits_for : Fm P w K mg base CX0 1 C "waits_for" ["self"] (spWait K C)) (M_log_and_forward : Fm P w K mg base CX0 1 C "log_and_forward" ["self", "writer", "word", "source", "bit"] spNo)
    (M_accept_bye : Fm P w K mg base CX0 1 C "accept_bye" ["self", "source"] spNo) (M_can_join : Fm P w K mg base CX0 8 C "can_join" ["self", "relink"] (spCanJ K C)) (M_act : Fm P w K mg base CX0 10 C "act" ["self", "relink", "kind"] (spAct K C spNo)) : FnOk P w K mg base CX0 11 f fd ["self", "source", "item"] (spAcc K C) := by
  obtain ⟨_, _, MM_waits_for, MB_waits_for, MF_waits_for⟩ := M_waits_for.ex
  obtain ⟨_, _, MM_log_and_forward, MB_log_and_forward, MF_log_and_forward⟩ := M_log_and_forward.ex
  obtain ⟨_, _, MM_accept_bye, MB_accept_bye, MF_accept_bye⟩ := M_accept_bye.ex
  obtain ⟨_, _, MM_can_join, MB_can_join, MF_can_join⟩ := M_can_join.ex
  obtain ⟨_, _, MM_act, MB_act, MF_act⟩ := M_act.ex
  refine F.ok scm_accept (fun vs H Q E h => ?_) (fun cdv A outer s H vs Q E hr h => ?_)
  · obtain ⟨h, ia, pa, s, xs, c, j, st, ad, rfl, _⟩ := h
    rfl
  · obtain ⟨h, ia, pa, s, xs, c, j, st, ad, rfl, x, ask, few, anl, qul, l0, q⟩ := h
    refine ⟨_, (pss_cons (ps_if (pt_cmpR op_eq (pe_meth0 (pv 0) T.cl MM_waits_for MF_waits_for (hr.mono (by decide)) MB_waits_for .nil pass0) (pv 1) (nomark _))
 (pss_cons (ps_expr (pe_bm PySem.F.plainAttrs_list PySem.F.slot_list_append PySem.F.type_list_append mt_append (pe_fld (pv 0) rfl) (pa_cons (pv 2) pa_nil)))
 (pss_one (ps_ret (pe_lst pa_nil))))
 pss_nil)
 (pss_cons (ps_if (pt_cmpR op_eq (pe_ix ix_tup (pv 2) pe_int (fun _ _ => rfl)) pe_str (nomark _))
 (pss_one (ps_ret (pe_meth (pv 0) T.cl MM_log_and_forward MF_log_and_forward (hr.mono (by decide)) MB_log_and_forward .nil pass0 (pa_cons (pe_ix ix_tup (pv 2) pe_int (fun _ _ => rfl)) (pa_cons (pe_ix ix_tup (pv 2) pe_int (fun _ _ => rfl)) (pa_cons (pv 1) (pa_cons (pe_ix ix_tup (pv 2) pe_int (fun _ _ => rfl)) pa_nil)))))))
 pss_nil)
 (pss_cons (ps_if (pt_cmpR op_eq (pe_ix ix_tup (pv 2) pe_int (fun _ _ => rfl)) pe_str (nomark _))
 (pss_one (ps_ret (pe_meth (pv 0) T.cl MM_accept_bye MF_accept_bye (hr.mono (by decide)) MB_accept_bye .nil pass0 (pa_cons (pv 1) pa_nil))))
 pss_nil)
 (pss_cons (ps_asg (pv 2) (pg_tup (by rfl) (pgs_cons (pg_name (i := 3) scm_accept.nd rfl (Or.inl rfl)) (pgs_cons (pg_name (i := 4) scm_accept.nd rfl (Or.inl rfl)) (pgs_cons (pg_name (i := 5) scm_accept.nd rfl (Or.inl rfl)) pgs_nil)))))
 (pss_cons (ps_if (PW.pt (pw_and (pt_cmpR op_eq (pv 3) pe_str (nomark _)) (pw_and1 (pt_not (pt_val (pe_meth (pv 0) T.cl MM_can_join MF_can_join (hr.mono (by decide)) MB_can_join .nil pass0 (pa_cons (pe_tupZ (pa_cons (pv 4) (pa_cons (pv 5) pa_nil))) pa_nil)))))))
 (pss_one (ps_ret (pe_lst (pa_cons (pe_tupZ (pa_cons (pv 1) (pa_cons (pe_tupZ (pa_cons pe_str (pa_cons (pv 4) (pa_cons (pv 5) pa_nil)))) pa_nil))) pa_nil))))
 pss_nil)
 (pss_one (ps_ret (pe_meth (pv 0) T.cl MM_act MF_act (hr.mono (by decide)) MB_act .nil pass0 (pa_cons (pe_tupZ (pa_cons (pv 4) (pa_cons (pv 5) pa_nil))) (pa_cons (pv 3) pa_nil)))))))))), ?_⟩
    refine ⟨_, rfl, h, ad.dx, _, rfl, x.at_, (by rfl), h, st, ad, rfl, x, l0, _, rfl, (by cases awt st <;> rfl), _, rfl, ?_⟩
    unfold askO at q
    refine ite2 (fun c1 => ?_) (fun c1 => ?_)
    · have c1' : awt st = some s := by
        have z := of_decide_eq_true c1
        cases e : awt st with
        | none => rw [e] at z; cases z
        | some y => rw [e] at z; injection z with z; rw [z]
      rw [if_pos c1'] at q
      obtain ⟨lv, el, dl⟩ := x.qu
      have ll := Dns.len dl
      refine ⟨_, rfl, h, C, ad.dx, _, _, rfl, x.at_, T.cl, T.n6, rfl, .inl ⟨rfl, _, SqL.of el⟩, _, rfl, ?_⟩
      refine ⟨ad.Lq, lv, .ref ia, rfl, rfl, el, (by rw [sizeLine_eq]; omega), ?_⟩
      have x2 := x.que el dl (dn_ctlI (K := K) (Tz.fz ask.it) (Tz.fz ask.pa))
      have o2 : OffA h ad H (upd H ad.Lq (.lst (lv ++ [.ref ia]))) := ⟨fun b u e _ _ n _ => (upd_ne n).trans e, fun b n => by
        by_cases e : b = ad.Lq
        · rw [e, upd_same] at n
          cases n
        · rw [upd_ne e] at n
          exact n⟩
      have fk : FzK H (upd H ad.Lq (.lst (lv ++ [.ref ia]))) := (FzK.refl H).upd el (fun _ _ z => nomatch z)
      refine ⟨Nat.zero_le _, fun L nL => ?_⟩
      exact q _ ad L [] ((Ac.mk o2 NewA.refl fk x2).same (same_upd nL)) (o2.dm _ nL) upd_same .nil
    have c1' : ¬ awt st = some s := fun z => c1 (decide_eq_true (by rw [z]; rfl))
    rw [if_neg c1'] at q
    refine ⟨_, rfl, ia, _, 0, _, rfl, rfl, ask.it.sq, atI_nat (j := 0) rfl, rfl, _, rfl, iteF ?_⟩
    refine ⟨_, rfl, ia, _, 0, _, rfl, rfl, ask.it.sq, atI_nat (j := 0) rfl, rfl, _, rfl, iteF ?_⟩
    refine ⟨_, rfl, ia, _, rfl, ask.it.sq, rfl, _, _, rfl, _, _, rfl, _, _, rfl, rfl, ?_⟩
    refine ⟨_, rfl, rfl, _, rfl, iteT ?_⟩
    refine ⟨_, rfl, h, ad.dx, _, rfl, x.at_, (by rfl), _, rfl, _, rfl, (by show 2 ≤ sizeLine; decide), fun t1 o1 n1 s1 z1 => ?_⟩
    generalize upd H t1 o1 = H1 at s1 z1 ⊢
    refine ⟨h, t1, pa, xs, c, j, st, ad, rfl, x.same s1, (ask.same s1).onR z1, fun H2 s2 => ⟨_, rfl, ?_⟩⟩
    have s02 := s1.trans s2
    have x2 := x.same s02
    have ask2 := ask.same s02
    generalize canJ st xs j = cj at q
    cases cj with
    | false =>
      refine iteT ?_
      refine ⟨_, rfl, _, rfl, _, rfl, (by show 3 ≤ sizeLine; decide), fun t2 o2 n2 s3 z3 => ?_⟩
      generalize upd H2 t2 o2 = H3 at s3 z3 ⊢
      refine ⟨(by show 2 ≤ sizeLine; decide), fun t3 o3 n3 s4 z4 => ?_⟩
      generalize upd H3 t3 o3 = H4 at s4 z4 ⊢
      refine ⟨(by show 1 ≤ sizeLine; decide), fun L nL => ?_⟩
      have s5 := same_upd (o := .lst [.ref t3]) nL
      have s35 := s3.trans (s4.trans s5)
      refine q _ ad L _ ((Ac.refl x).same (s02.trans s35)) (same_no (s02.trans (s3.trans s4)) nL) upd_same (.cons ?_ .nil)
      exact .tup (Tz.fz (z4.same s5)) (.cons (.str s) (.cons (.tup (Tz.fz (z3.same (s4.trans s5))) (.cons (.str _) (.cons (.tup (Tz.fz (ask2.pa.same s35)) (dns_strs' xs)) (.cons (.int _) .nil)))) .nil))
    | true =>
      refine iteF ?_
      refine ⟨_, rfl, h, ad.dx, _, rfl, x2.at_, (by rfl), _, rfl, _, rfl, (by show 2 ≤ sizeLine; decide), fun t2 o2 n2 s3 z3 => ?_⟩
      generalize upd H2 t2 o2 = H3 at s3 z3 ⊢
      have s03 := s02.trans s3
      have j0 := ask.j0
      have rc : recv xs c j "ask" = true := by
        unfold recv
        rw [if_neg (by decide), if_neg j0]
        simp
      refine ⟨_, rfl, h, t2, pa, xs, c, j, "ask", st, ad, rfl, x.same s03, (ask2.same s3).onR z3, (by decide), rc, few, anl, l0, fun H' ad' ac L us nL eL du => ?_⟩
      have e : stepR xs c j "ask" = askS xs c j := if_pos rfl
      rw [e] at ac du
      rw [e]
      have ph : (askS xs c j).ph ≠ "free" := by
        unfold askS
        split
        · exact (by decide : ("reserved" : Str) ≠ "free")
        · exact (by decide : ("turned" : Str) ≠ "free")
      exact ⟨fun _ => q _ _ L us (ac.back s03) (same_no s03 nL) eL du, fun z => absurd z ph⟩
/-- an ask is an item -/
theorem ask_item {xs : List Str} {c : Nat} (ir : isRel (reld xs c) = true) : isItem (ctlI "ask" xs c) = true := by
  have e : isItem (ctlI "ask" xs c) = (decide (("ask" : Str) ∈ KINDS) && isRel (reld xs c)) := by
    show (if ("ask" : Str) = "message" then isMsg [.tuple (xs.map PyData.str), .int (c : Int)] else if ("ask" : Str) = "bye" then ([.tuple (xs.map PyData.str), .int (c : Int)] : List PyData).isEmpty else decide (("ask" : Str) ∈ KINDS) && isRel (.tuple [.tuple (xs.map PyData.str), .int (c : Int)])) = _
    rw [if_neg (by decide), if_neg (by decide)]
    rfl
  rw [e, ir]
  rfl
theorem ask_sml {xs : List Str} {c : Nat} (sm : sml (reld xs c) = true) : sml (ctlI "ask" xs c) = true := by
  have h : (decide (2 ≤ 14) && (sml (.tuple (xs.map PyData.str)) && (true && true))) = true := sm
  simp only [Bool.and_true, Bool.and_eq_true] at h
  show (decide (3 ≤ 14) && (decide (("ask" : Str).length ≤ 20) && (sml (.tuple (xs.map PyData.str)) && (true && true)))) = true
  rw [h.2]
  rfl
/-- receive, of an ask from a host -/
def spRecvA (K : PySem.W.Frag) (C : Addr) : Sp := fun vs H Q E => ∃ (h ia pa : Addr) (s : Str) (xs : List Str) (c j : Nat) (st : HS) (ad : HA), vs = [.ref h, .str s, .ref ia] ∧ Nm s ∧ Hst K C H h st ad ∧ AskAt H ia pa xs c j st.nm ∧ st.lk.length < 50 ∧ st.an.length ≤ 1000 ∧ st.qu.length ≤ 1000 ∧ (∀ xs c, st.jn = some (xs, c) → 0 < xs.length) ∧
  ∀ H' ad' L us, Ac K C h ad H H' (askO st s xs c j).1 ad' → H L = none → H' L = some (.lst us) → Dns K (fz H') us (askO st s xs c j).2 → Q (.ref L) H'
theorem ok_recvA {f : Addr} {fd : FuncData} (F : Fun K "receive" "Host.receive" m_receive f fd) (T : Ch K C) (R : Rz P w K mg base "InvalidName" "value" CN) (G_is_host_name : Fk P w K mg base CX0 2 "is_host_name" ["value"] (spHost K)) (G_check_item : Fk P w K mg base (L2.CX P w) 6 "check_item" ["value"] (spChkI K CI))
    (M_accept : Fm P w K mg base CX0 11 C "accept" ["self", "source", "item"] (spAcc K C)) : FnOk P w K mg base (L2.CX P w) 12 f fd ["self", "source", "item"] (spRecvA K C) := by
  obtain ⟨fI, fdI, XI, GI, bI⟩ := R.ex
  obtain ⟨_, _, MM_accept, MB_accept, MF_accept⟩ := M_accept.ex
  refine F.okX scm_receive (fun vs H Q E h => ?_) (fun cdv A outer s H vs Q E hr h => ?_)
  · obtain ⟨h, ia, pa, s, xs, c, j, st, ad, rfl, _⟩ := h
    rfl
  · obtain ⟨h, ia, pa, s, xs, c, j, st, ad, rfl, ns, x, ask, few, anl, qul, l0, q⟩ := h
    refine ⟨_, (pss_cons (ps_if (pt_not (pt_val (pe_callF G_is_host_name (hr.mono (by decide)) (by rfl) pass0 (pa_cons (pv 1) pa_nil))))
 (pss_one (ps_raise1 rfl (takes_of rfl rfl rfl rfl) XI R.ty GI (hr.mono (by decide)) bI (by rfl) R.gm (pa_cons (pv 1) pa_nil)))
 pss_nil)
 (pss_cons (ps_expr (pe_callF G_check_item (hr.mono (by decide)) (by rfl) (passes_call (E := E) (takes_of rfl rfl rfl rfl) (fun _ _ _ _ h => h)) (pa_cons (pv 2) pa_nil)))
 (pss_one (ps_ret (pe_meth (pv 0) T.cl MM_accept MF_accept (hr.mono (by decide)) MB_accept .nil pass0 (pa_cons (pv 1) (pa_cons (pv 2) pa_nil))))))), ?_⟩
    refine ⟨_, rfl, _, rfl, .str s (le200 (by have := ns.2.1; omega)), fun H1 s1 => ⟨_, rfl, ?_⟩⟩
    rw [nm_txt ns]
    have ask1 := ask.same s1
    refine iteF ⟨_, rfl, _, _, rfl, dn_ctlI ask1.it ask1.pa, ask_sml ask.sm, fun _ H2 s2 => ?_, fun z => absurd ((ask_item ask.ir).symm.trans z) (by decide)⟩
    have s02 := s1.trans s2
    refine ⟨_, rfl, h, ad.dx, _, rfl, (x.same s02).at_, (by rfl), _, rfl, _, rfl, h, ia, pa, s, xs, c, j, st, ad, rfl, x.same s02, ask.same s02, few, anl, qul, l0, fun H' ad' L us ac nL eL du => ?_⟩
    exact q _ _ L us (ac.back s02) (same_no s02 nL) eL du
end
end My

namespace My
open PySem PySem.Spec PyProof.Rows L2 Gy Xl Xs Xt Xo Xp Xu
/-! ### the law's own model of a host -/
def mdl (st : HS) (am : HA) : List (L2.Key × V) := [(.inr "name", .str st.nm), (.inr "links", .ref am.Lk), (.inr "log", .ref am.Ll), (.inr "relink", am.jv), (.inr "phase", .str st.sg), (.inr "queue", .ref am.Lq), (.inr "answers", .ref am.La)]
theorem mv_name (st : HS) (am : HA) : valV (mdl st am) (.inr "name") = some (.str st.nm) := rfl
theorem mv_links (st : HS) (am : HA) : valV (mdl st am) (.inr "links") = some (.ref am.Lk) := by rfl
theorem mv_log (st : HS) (am : HA) : valV (mdl st am) (.inr "log") = some (.ref am.Ll) := by rfl
theorem mv_relink (st : HS) (am : HA) : valV (mdl st am) (.inr "relink") = some am.jv := by rfl
theorem mv_phase (st : HS) (am : HA) : valV (mdl st am) (.inr "phase") = some (.str st.sg) := by rfl
theorem mv_queue (st : HS) (am : HA) : valV (mdl st am) (.inr "queue") = some (.ref am.Lq) := by rfl
theorem mv_answers (st : HS) (am : HA) : valV (mdl st am) (.inr "answers") = some (.ref am.La) := by rfl
theorem mp_links (st : HS) (am : HA) (l : Addr) (ys : List Str) : putK (mdl st am) (.inr "links") (.ref l) = mdl { st with lk := ys } { am with Lk := l } := by rfl
theorem mp_relink (st : HS) (am : HA) (v : V) (j : Option (List Str × Nat)) : putK (mdl st am) (.inr "relink") v = mdl { st with jn := j } { am with jv := v } := by rfl
theorem mp_phase (st : HS) (am : HA) (x : Str) : putK (mdl st am) (.inr "phase") (.str x) = mdl { st with sg := x } am := by rfl
structure Mst (K : PySem.W.Frag) (H : Hp) (m : Addr) (st : HS) (am : HA) : Prop where
  at_ : H m = some (.dK (mdl st am))
  lk : H am.Lk = some (.lst (st.lk.map V.str))
  lg : ∃ vs, H am.Ll = some (.lst vs) ∧ Dns K (fz H) vs st.lg
  jn : Jnd (fz H) am.jv st.jn
  qu : ∃ vs, H am.Lq = some (.lst vs) ∧ Dns K (fz H) vs st.qu
  an : ∃ vs, H am.La = some (.lst vs) ∧ Dns K (fz H) vs st.an
  sep : am.Lk ≠ am.Ll ∧ am.Lk ≠ am.Lq ∧ am.Lk ≠ am.La ∧ am.Ll ≠ am.Lq ∧ am.Ll ≠ am.La ∧ am.Lq ≠ am.La
section
variable {P : Program} {w : World} {K : PySem.W.Frag} {mg : Str → Option Value} {base : Heap} {H H1 H2 : Hp} {C : Addr} {m : Addr} {st st1 st2 : HS} {am am1 am2 : HA}
theorem Mst.same (x : Mst K H m st am) (s : Same H H1) : Mst K H1 m st am := by
  obtain ⟨v1, a1, b1⟩ := x.lg
  obtain ⟨v2, a2, b2⟩ := x.qu
  obtain ⟨v3, a3, b3⟩ := x.an
  have f := fz_keep (FzK.of s)
  exact ⟨s _ _ x.at_, s _ _ x.lk, ⟨v1, s _ _ a1, b1.same f⟩, x.jn.same f, ⟨v2, s _ _ a2, b2.same f⟩, ⟨v3, s _ _ a3, b3.same f⟩, x.sep⟩
theorem ne_dk {a b : Addr} {xs : List V} {kvs : List (L2.Key × V)} (h1 : H a = some (.lst xs)) (h2 : H b = some (.dK kvs)) : a ≠ b := ne_of h1 h2 (fun z => nomatch z)
theorem FzK.offm {kvs : List (L2.Key × V)} (hh : H m = some (.dK kvs)) (o : Off m H H1) : FzK H H1 := fun b ob u e => o b _ e (ne_of e hh (fun z => nomatch z))
theorem Mst.keep (x : Mst K H m st am) (o : Off m H H1) : H1 am.Lk = some (.lst (st.lk.map V.str)) ∧ (∃ vs, H1 am.Ll = some (.lst vs) ∧ Dns K (fz H1) vs st.lg) ∧ Jnd (fz H1) am.jv st.jn ∧ (∃ vs, H1 am.Lq = some (.lst vs) ∧ Dns K (fz H1) vs st.qu) ∧ (∃ vs, H1 am.La = some (.lst vs) ∧ Dns K (fz H1) vs st.an) := by
  obtain ⟨v1, a1, b1⟩ := x.lg
  obtain ⟨v2, a2, b2⟩ := x.qu
  obtain ⟨v3, a3, b3⟩ := x.an
  have f := fz_keep (FzK.offm x.at_ o)
  exact ⟨o _ _ x.lk (ne_dk x.lk x.at_), ⟨v1, o _ _ a1 (ne_dk a1 x.at_), b1.same f⟩, x.jn.same f, ⟨v2, o _ _ a2 (ne_dk a2 x.at_), b2.same f⟩, ⟨v3, o _ _ a3 (ne_dk a3 x.at_), b3.same f⟩⟩
/-- where the changes of the model are -/
structure Am (K : PySem.W.Frag) (m : Addr) (am : HA) (H H' : Hp) (st' : HS) (am' : HA) : Prop where
  off : OffA m am H H'
  nw : NewA H am am'
  fk : FzK H H'
  hx : Mst K H' m st' am'
theorem Am.trans (a : Am K m am H H1 st1 am1) (b : Am K m am1 H1 H2 st2 am2) : Am K m am H H2 st2 am2 := ⟨a.off.trans a.nw b.off, NewA.trans a.off a.nw b.nw, a.fk.trans b.fk, b.hx⟩
theorem Am.same (a : Am K m am H H1 st1 am1) (s : Same H1 H2) : Am K m am H H2 st1 am1 := a.trans ⟨OffA.same s, NewA.refl, FzK.of s, a.hx.same s⟩
theorem Am.refl (x : Mst K H m st am) : Am K m am H H st am := ⟨OffA.refl, NewA.refl, FzK.refl H, x⟩
theorem Am.back (s : Same H H1) (b : Am K m am H1 H2 st2 am2) : Am K m am H H2 st2 am2 := ⟨(OffA.same s).trans NewA.refl b.off, NewA.trans (h := m) (OffA.same s) NewA.refl b.nw, (FzK.of s).trans b.fk, b.hx⟩
/-- the dict is written, its lists stand -/
theorem offm {kvs : List (L2.Key × V)} {u : HO} (h : H m = some (.dK kvs)) : OffA m am H (upd H m u) := ⟨fun y o e n _ _ _ => (upd_ne n).trans e, fun y n => by
  by_cases e : y = m
  · rw [e, upd_same] at n
    cases n
  · rw [upd_ne e] at n
    exact n⟩
theorem Mst.put (x : Mst K H m st am) {jv : V} {jn : Option (List Str × Nat)} {sg : Str} (j : Jnd (fz H) jv jn) : Am K m am H (upd H m (.dK (mdl { st with jn := jn, sg := sg } { am with jv := jv }))) { st with jn := jn, sg := sg } { am with jv := jv } := by
  have o : Off m H (upd H m (.dK (mdl { st with jn := jn, sg := sg } { am with jv := jv }))) := (Off.refl m H).upd
  have fk := FzK.offm x.at_ o
  obtain ⟨k1, k2, k3, k4, k5⟩ := x.keep o
  exact ⟨offm x.at_, ⟨.inl rfl, .inl rfl, .inl rfl, .inl rfl⟩, fk, ⟨upd_same, k1, k2, j.same (fz_keep fk), k4, k5, x.sep⟩⟩
/-- other links at a new list -/
theorem Mst.lnk (x : Mst K H m st am) {D : Addr} {ys : List Str} (nD : H D = none) (s : Same H H1) (e : H1 D = some (.lst (ys.map V.str))) : Am K m am H (upd H1 m (.dK (mdl { st with lk := ys } { am with Lk := D }))) { st with lk := ys } { am with Lk := D } := by
  have x1 := x.same s
  have o : Off m H1 (upd H1 m (.dK (mdl { st with lk := ys } { am with Lk := D }))) := (Off.refl m H1).upd
  have fk := FzK.offm x1.at_ o
  obtain ⟨k1, k2, k3, k4, k5⟩ := x1.keep o
  obtain ⟨_, el, _⟩ := x.lg
  obtain ⟨_, eq, _⟩ := x.qu
  obtain ⟨_, ea, _⟩ := x.an
  exact ⟨(OffA.same s).trans NewA.refl (offm x1.at_), ⟨.inr nD, .inl rfl, .inl rfl, .inl rfl⟩, (FzK.of s).trans fk, ⟨upd_same, o _ _ e (ne_dk e x1.at_), k2, k3, k4, k5, (ne_of_none el nD).symm, (ne_of_none eq nD).symm, (ne_of_none ea nD).symm, x.sep.2.2.2⟩⟩
end
end My

namespace My
open PySem PySem.Spec PyProof.Rows L2 Gy Xl Xs Xt Xo Xp Xu
section
variable {P : Program} {w : World} {K : PySem.W.Frag} {mg : Str → Option Value} {base : Heap} {H H1 H2 : Hp}
/-! ### the small defs over the model -/
def spNew (K : PySem.W.Frag) : Sp := fun vs H Q _ => ∃ (l g : Addr) (nm : Str) (xs : List Str) (us : List V) (lg : List PyData), vs = [.str nm, .ref l, .ref g] ∧ SqL K H l (xs.map V.str) ∧ xs.length < 64 ∧ SqL K H g us ∧ us.length ≤ 1000 ∧ Dns K (fz H) us lg ∧
  ∀ H' m am, Same H H' → H m = none → Mst K H' m ⟨nm, srt xs, lg, none, "free", [], []⟩ am → H am.Lk = none → H am.Ll = none → H am.Lq = none → H am.La = none → Q (.ref m) H'
theorem ok_new {f : Addr} {fd : FuncData} (F : Fun K "_law_new" "_law_new" s_law_new f fd) (Y : Bn mg) : FnOk P w K mg base CX0 1 f fd ["_law_name_here", "_law_linked_here", "_law_logged"] (spNew K) := by
  refine F.ok sc_law_new (fun vs H Q E h => ?_) (fun cdv A outer s H vs Q E hr h => ?_)
  · obtain ⟨l, g, nm, xs, us, lg, rfl, _⟩ := h
    rfl
  · obtain ⟨l, g, nm, xs, us, lg, rfl, sq, few, sg, gl, dg, q⟩ := h
    refine ⟨_, (pss_cons (ps_set (i := 3) sc_law_new.nd rfl (.inl rfl) (pe_disp (pps_cons pe_str (pv 0) (pps_cons pe_str (pe_callB cr_sortedS (by rfl) Y.sorted (by decide +kernel) (pa_cons (pv 1) pa_nil)) (pps_cons pe_str (pe_callTy call_list_of (by rfl) Y.list (by decide +kernel) (pa_cons (pv 2) pa_nil)) (pps_cons pe_str pe_non (pps_cons pe_str pe_str pps_nil))))) (by rfl) (by rfl) (fun z => by cases z) (by decide)))
 (pss_cons (ps_expr (pe_bm PySem.F.plainAttrs_dict PySem.F.slot_dict_update PySem.F.type_dict_update mt_upd (pv 3) (pa_cons (pe_disp (pps_cons pe_str (pe_lst pa_nil) (pps_cons pe_str (pe_lst pa_nil) pps_nil)) (by rfl) (by rfl) (fun z => by cases z) (by decide)) pa_nil)))
 (pss_one (ps_ret (pv 3))))), ?_⟩
    intro m nm0
    have s1 := same_upd (o := .dK []) nm0
    have g1 : (upd H m (.dK [])) m = some (.dK []) := upd_same
    generalize upd H m (.dK []) = H1 at s1 g1 ⊢
    refine ⟨_, rfl, _, rfl, l, xs, rfl, s1.seq sq, few, fun ys Lk pm srt_ nk => ?_⟩
    obtain rfl := srt_of pm srt_
    have s2 := same_upd (o := .lst ((srt xs).map V.str)) nk
    have g2 := s2 _ _ g1
    have k2 : (upd H1 Lk (.lst ((srt xs).map V.str))) Lk = _ := upd_same
    generalize upd H1 Lk (.lst ((srt xs).map V.str)) = H2 at s2 g2 k2 ⊢
    refine ⟨_, rfl, g, us, rfl, .inl (s2.seq (s1.seq sg)), fun Ll nl => ?_⟩
    have s3 := same_upd (o := .lst us) nl
    have g3 := s3 _ _ g2
    have k3 := s3 _ _ k2
    have l3 : (upd H2 Ll (.lst us)) Ll = _ := upd_same
    generalize upd H2 Ll (.lst us) = H3 at s3 g3 k3 l3 ⊢
    refine ⟨g3, [(.inr "name", .str nm), (.inr "links", .ref Lk), (.inr "log", .ref Ll), (.inr "relink", .non), (.inr "phase", .str "free")], rfl, (by show 5 ≤ 15; decide), ?_⟩
    rw [show mergeK [] ([(.inr "name", .str nm), (.inr "links", .ref Lk), (.inr "log", .ref Ll), (.inr "relink", .non), (.inr "phase", .str "free")] : List (L2.Key × V)) = [(.inr "name", .str nm), (.inr "links", .ref Lk), (.inr "log", .ref Ll), (.inr "relink", .non), (.inr "phase", .str "free")] from rfl]
    have o4 : Off m H3 (upd H3 m (.dK [(.inr "name", .str nm), (.inr "links", .ref Lk), (.inr "log", .ref Ll), (.inr "relink", .non), (.inr "phase", .str "free")])) := (Off.refl m H3).upd
    have g4 : (upd H3 m (.dK [(.inr "name", .str nm), (.inr "links", .ref Lk), (.inr "log", .ref Ll), (.inr "relink", .non), (.inr "phase", .str "free")])) m = some (.dK [(.inr "name", .str nm), (.inr "links", .ref Lk), (.inr "log", .ref Ll), (.inr "relink", .non), (.inr "phase", .str "free")]) := upd_same
    generalize upd H3 m (.dK [(.inr "name", .str nm), (.inr "links", .ref Lk), (.inr "log", .ref Ll), (.inr "relink", .non), (.inr "phase", .str "free")]) = H4 at o4 g4 ⊢
    have s04 : Same H H4 := fun b u e => o4 _ _ (s3 _ _ (s2 _ _ (s1 _ _ e))) (ne_of_none e nm0)
    have k4 := o4 _ _ k3 (ne_dk k3 g3)
    have l4 := o4 _ _ l3 (ne_dk l3 g3)
    have nk0 : H Lk = none := same_no s1 nk
    have nl0 : H Ll = none := same_no s1 (same_no s2 nl)
    refine ⟨_, rfl, .inr (.inr (.inl ⟨rfl, .inl ⟨_, g4⟩⟩)), fun d nd => ?_⟩
    have s5 := same_upd (o := .dK []) nd
    have g5 : (upd H4 d (.dK [])) d = some (.dK []) := upd_same
    have m5 := s5 _ _ g4
    generalize upd H4 d (.dK []) = H5 at s5 g5 m5 ⊢
    refine ⟨Nat.zero_le _, fun Lq nq => ?_⟩
    have s6 := same_upd (o := .lst []) nq
    have g6 := s6 _ _ g5
    have m6 := s6 _ _ m5
    have q6 : (upd H5 Lq (.lst [])) Lq = _ := upd_same
    generalize upd H5 Lq (.lst []) = H6 at s6 g6 m6 q6 ⊢
    refine ⟨Nat.zero_le _, fun La na => ?_⟩
    have s7 := same_upd (o := .lst []) na
    have g7 := s7 _ _ g6
    have m7 := s7 _ _ m6
    have q7 := s7 _ _ q6
    have a7 : (upd H6 La (.lst [])) La = _ := upd_same
    generalize upd H6 La (.lst []) = H7 at s7 g7 m7 q7 a7 ⊢
    refine ⟨g7, [(.inr "queue", .ref Lq), (.inr "answers", .ref La)], rfl, (by show 2 ≤ 15; decide), ?_⟩
    rw [show mergeK [] ([(.inr "queue", .ref Lq), (.inr "answers", .ref La)] : List (L2.Key × V)) = [(.inr "queue", .ref Lq), (.inr "answers", .ref La)] from rfl]
    have md : m ≠ d := ne_of_none g4 nd
    have s47 := s5.trans (s6.trans s7)
    refine ⟨m, d, _, _, rfl, rfl, md, (upd_ne md).trans m7, upd_same, (by show 5 + 2 ≤ sizeLine; decide), ?_⟩
    rw [show mergeK ([(.inr "name", .str nm), (.inr "links", .ref Lk), (.inr "log", .ref Ll), (.inr "relink", .non), (.inr "phase", .str "free")] : List (L2.Key × V)) [(.inr "queue", .ref Lq), (.inr "answers", .ref La)] = mdl ⟨nm, srt xs, lg, none, "free", [], []⟩ ⟨Lk, Ll, Lq, La, .non, 0⟩ from rfl]
    have nd0 : H d = none := same_no s04 nd
    have nq0 : H Lq = none := same_no s04 (same_no s5 nq)
    have na0 : H La = none := same_no s04 (same_no s5 (same_no s6 na))
    have two : ∀ {y o}, H7 y = some o → y ≠ m → y ≠ d → ∀ {u v}, (upd (upd H7 d u) m v) y = some o := fun {y o} e n1 n2 {u v} => (upd_ne n1).trans ((upd_ne n2).trans e)
    have k7 := s47 _ _ k4
    have l7 := s47 _ _ l4
    have sF : Same H (upd (upd H7 d (.dK [(.inr "queue", .ref Lq), (.inr "answers", .ref La)])) m (.dK (mdl ⟨nm, srt xs, lg, none, "free", [], []⟩ ⟨Lk, Ll, Lq, La, .non, 0⟩))) := fun b u e => two (s47 _ _ (s04 _ _ e)) (ne_of_none e nm0) (ne_of_none e nd0)
    have fk := fz_keep (FzK.of sF)
    refine ⟨_, rfl, q _ m ⟨Lk, Ll, Lq, La, .non, 0⟩ sF nm0 ⟨upd_same, two k7 (ne_dk k7 m7) (ne_dk k7 g7), ⟨us, two l7 (ne_dk l7 m7) (ne_dk l7 g7), dg.same fk⟩, rfl, ⟨[], two q7 (ne_dk q7 m7) (ne_dk q7 g7), .nil⟩, ⟨[], two a7 (ne_dk a7 m7) (ne_dk a7 g7), .nil⟩, ne_of_none k2 nl, ne_of_none (s5 _ _ k4) nq, ne_of_none (s6 _ _ (s5 _ _ k4)) na, ne_of_none (s5 _ _ l4) nq, ne_of_none (s6 _ _ (s5 _ _ l4)) na, ne_of_none q6 na⟩ nk0 nl0 nq0 na0⟩
/-- whom the model waits for -/
def spAw (K : PySem.W.Frag) : Sp := fun vs H Q _ => ∃ (m : Addr) (st : HS) (am : HA), vs = [.ref m] ∧ Mst K H m st am ∧ (∀ xs c, st.jn = some (xs, c) → 0 < xs.length) ∧ Q (optV (awt st)) H
theorem ok_aw {f : Addr} {fd : FuncData} (F : Fun K "_law_awaited" "_law_awaited" s_law_awaited f fd) (Y : Bn mg) : FnOk P w K mg base CX0 1 f fd ["_law_model"] (spAw K) := by
  refine F.ok sc_law_awaited (fun vs H Q E h => ?_) (fun cdv A outer s H vs Q E hr h => ?_)
  · obtain ⟨m, st, am, rfl, _⟩ := h
    rfl
  · obtain ⟨m, st, am, rfl, x, l0, q⟩ := h
    have hu1 := hu_of hr
    refine ⟨_, (pss_cons (ps_if (pt_cmpR op_isN (pe_dget hu1 (pv 0) pe_str (fun _ _ => rfl)) pe_non (nomark _))
 (pss_one (ps_ret pe_non))
 pss_nil)
 (pss_cons (ps_set (i := 1) sc_law_awaited.nd rfl (.inl rfl) (pe_ix ix_tup (pe_dget hu1 (pv 0) pe_str (fun _ _ => rfl)) pe_int (fun _ _ => rfl)))
 (pss_cons (ps_if (pt_cmpR op_eq (pe_dget hu1 (pv 0) pe_str (fun _ _ => rfl)) (pe_ix ix_tup (pv 1) pe_int (fun _ _ => rfl)) (nomark _))
 (pss_one (ps_ret (pe_ix ix_tup (pv 1) (pe_un un_neg pe_int) (fun _ _ => rfl))))
 pss_nil)
 (pss_one (ps_ret (pe_ifExp (pt_cmpR op_eq (pe_dget hu1 (pv 0) pe_str (fun _ _ => rfl)) (pe_ix ix_tup (pv 1) (pe_un un_neg pe_int) (fun _ _ => rfl)) (nomark _)) (pe_ix ix_tup (pv 1) pe_int (fun _ _ => rfl)) pe_non)))))), ?_⟩
    refine ⟨_, rfl, m, _, rfl, DGet.k (k := .inr "relink") x.at_, ?_⟩
    refine ⟨rfl, _, rfl, ?_⟩
    dsimp only
    unfold awt at q
    have jj := x.jn
    cases ej : st.jn with
    | none =>
      rw [ej] at jj q
      have e : am.jv = .non := jj
      rw [e]
      exact iteT q
    | some p =>
      obtain ⟨xs, c⟩ := p
      have lx := l0 xs c ej
      rw [ej] at jj q
      obtain ⟨t, pa, e, za, zb⟩ := jj
      replace za := za.same (fz_same H)
      replace zb := zb.same (fz_same H)
      dsimp only at q
      rw [decide_eq_false (show ¬ am.jv = V.non from fun z => by rw [e] at z; cases z)]
      refine iteF ⟨_, rfl, m, _, rfl, DGet.k (k := .inr "relink") x.at_, t, _, 0, .ref pa, e, rfl, za.sq, atI_nat (j := 0) rfl, ?_⟩
      refine ⟨_, rfl, m, _, rfl, DGet.k (k := .inr "name") x.at_, _, rfl, pa, _, 0, _, rfl, rfl, zb.sq, at_nat (i := 0) lx, rfl, _, rfl, ite2 (fun c1 => ?_) (fun c1 => ?_)⟩
      · have c1' : st.nm = xs.getD 0 "" := by
          have z := of_decide_eq_true c1
          injection z
        rw [if_pos c1'] at q
        exact ⟨_, rfl, 1, rfl, pa, _, -1, _, rfl, rfl, zb.sq, at_end lx, q⟩
      have c1' : ¬ st.nm = xs.getD 0 "" := fun z => c1 (decide_eq_true (by rw [z]))
      rw [if_neg c1'] at q
      refine ⟨_, rfl, m, _, rfl, DGet.k (k := .inr "name") x.at_, _, rfl, 1, rfl, pa, _, -1, _, rfl, rfl, zb.sq, at_end lx, rfl, _, rfl, ite2 (fun c2 => ?_) (fun c2 => ?_)⟩
      · have c2' : st.nm = xs.getD (xs.length - 1) "" := by
          have z := of_decide_eq_true c2
          injection z
        rw [if_pos c2'] at q
        exact ⟨_, rfl, pa, _, 0, _, rfl, rfl, zb.sq, at_nat (i := 0) lx, q⟩
      · have c2' : ¬ st.nm = xs.getD (xs.length - 1) "" := fun z => c2 (decide_eq_true (by rw [z]))
        rw [if_neg c2'] at q
        exact q
def spLnk (K : PySem.W.Frag) (g : List Str → Str → List Str) : Sp := fun vs H Q _ => ∃ (m : Addr) (o : Str) (st : HS) (am : HA), vs = [.ref m, .str o] ∧ Mst K H m st am ∧ st.lk.length < 60 ∧
  ∀ H' D, Am K m am H H' { st with lk := g st.lk o } { am with Lk := D } → Q .non H'
theorem ok_lnk {f : Addr} {fd : FuncData} (F : Fun K "_law_linked" "_law_linked" s_law_linked f fd) (Y : Bn mg) : FnOk P w K mg base CX0 1 f fd ["_law_model", "_law_other"] (spLnk K fun xs o => srt (xs ++ [o])) := by
  refine F.ok sc_law_linked (fun vs H Q E h => ?_) (fun cdv A outer s H vs Q E hr h => ?_)
  · obtain ⟨m, o, st, am, rfl, _⟩ := h
    rfl
  · obtain ⟨m, o, st, am, rfl, x, few, q⟩ := h
    have hu1 := hu_of hr
    refine ⟨_, (pss_one (ps_dput hu1 (pv 0) pe_str (pe_callB cr_sortedS (by rfl) Y.sorted (by decide +kernel) (pa_cons (pe_op op_cat (pe_dget hu1 (pv 0) pe_str (fun _ _ => rfl)) (pe_lst (pa_cons (pv 1) pa_nil))) pa_nil)) rfl)), ?_⟩
    have lk1 : (st.lk ++ [o]).map V.str = st.lk.map V.str ++ [.str o] := by rw [List.map_append]; rfl
    refine ⟨_, rfl, m, _, rfl, DGet.k (k := .inr "links") x.at_, _, rfl, (by show 1 ≤ sizeLine; decide), fun l nl => ?_⟩
    have s1 := same_upd (o := .lst [.str o]) nl
    have g1 : (upd H l (.lst [.str o])) l = _ := upd_same
    generalize upd H l (.lst [.str o]) = H1 at s1 g1 ⊢
    refine ⟨am.Lk, l, _, _, rfl, rfl, s1 _ _ x.lk, g1, ?_, fun p np => ?_⟩
    · rw [List.length_map]
      exact le400 (by show st.lk.length + 1 ≤ 10000; omega)
    have s2 := same_upd (o := .lst (st.lk.map V.str ++ [.str o])) np
    have g2 : (upd H1 p (.lst (st.lk.map V.str ++ [.str o]))) p = _ := upd_same
    generalize upd H1 p (.lst (st.lk.map V.str ++ [.str o])) = H2 at s2 g2 ⊢
    refine ⟨p, st.lk ++ [o], rfl, SqL.of (by rw [lk1]; exact g2), (by rw [List.length_append, List.length_cons, List.length_nil]; omega), fun ys D pm srt_ nD => ?_⟩
    obtain rfl := srt_of pm srt_
    have s3 := same_upd (o := .lst ((srt (st.lk ++ [o])).map V.str)) nD
    have g3 : (upd H2 D (.lst ((srt (st.lk ++ [o])).map V.str))) D = _ := upd_same
    generalize upd H2 D (.lst ((srt (st.lk ++ [o])).map V.str)) = H3 at s3 g3 ⊢
    have s03 := s1.trans (s2.trans s3)
    refine ⟨_, rfl, m, _, rfl, DPut.k (k := .inr "links") (s03 _ _ x.at_) (by show 7 < sizeLine; decide), ?_⟩
    rw [mp_links st am D (srt (st.lk ++ [o]))]
    exact q _ D (x.lnk (same_no (s1.trans s2) nD) s03 g3)
theorem ok_unl {f : Addr} {fd : FuncData} (F : Fun K "_law_unlinked" "_law_unlinked" s_law_unlinked f fd) (Y : Bn mg) : FnOk P w K mg base CX0 1 f fd ["_law_model", "_law_other"] (spLnk K fun xs o => xs.filter (· ≠ o)) := by
  refine F.ok sc_law_unlinked (fun vs H Q E h => ?_) (fun cdv A outer s H vs Q E hr h => ?_)
  · obtain ⟨m, o, st, am, rfl, _⟩ := h
    rfl
  · obtain ⟨m, o, st, am, rfl, x, few, q⟩ := h
    have hu1 := hu_of hr
    refine ⟨_, (pss_one (ps_dput hu1 (pv 0) pe_str (pe_lc (own := [("_law_link", 2)]) (g := gName 2) (tt := tTest (tOp rNe (tVar 2) (tVar 1))) rfl sc_law_unlinked.nd (pi_list (pe_dget hu1 (pv 0) pe_str (fun _ _ => rfl))) (blkOk_by (N := ["_law_model", "_law_other", "_law_link"]) (sc := defScope s_law_unlinked) (by decide +kernel)) (fun _ _ _ _ _ => (pg_name (i := 2) sc_law_unlinked.nd rfl (Or.inl rfl))) (fun _ _ _ _ _ => (pts_one (pt_cmpR op_ne (pv 2) (pv 1) (nomark _)))) (fun _ _ _ _ _ => (pv 2))) rfl)), ?_⟩
    refine ⟨_, rfl, m, _, rfl, DGet.k (k := .inr "links") x.at_, am.Lk, rfl, ⟨_, SqL.of x.lk⟩, fun D nD => ?_⟩
    refine lc_it (walk_list (K := K) (a := am.Lk) (xs := st.lk.map V.str)) (fun i H' => Same H H' ∧ H' D = some (.lst (((st.lk.take i).filter (· ≠ o)).map V.str)))
      ⟨same_upd nD, upd_same⟩ (fun i H' _ hI => SqL.of (hI.1 _ _ x.lk)) ?_ ?_
    · rintro i y H4 H5 hi ⟨s4, hD⟩ ⟨rfl, hy⟩
      rw [List.getElem?_map] at hy
      obtain ⟨z, hz, rfl⟩ := Option.map_eq_some_iff.mp hy
      refine ⟨rfl, _, rfl, _, rfl, rfl, _, rfl, ite2 (fun c => ?_) (fun c => ?_)⟩
      · have c' : z ≠ o := fun w => by
          rw [w] at c
          simp at c
        refine ⟨_, rfl, _, hD, ?_, same_upd2 s4 nD, ?_⟩
        · rw [List.length_map]
          refine small200 (Nat.le_trans (List.length_filter_le _ _) ?_)
          rw [List.length_take]
          omega
        · rw [upd_same, List.take_add_one, hz, List.filter_append, List.map_append]
          show some (HO.lst _) = some (HO.lst (_ ++ (List.filter _ [z]).map V.str))
          rw [List.filter_cons_of_pos (by simpa using c')]
          rfl
      · have c' : z = o := by
          cases w : decide (z = o) with
          | true => exact of_decide_eq_true w
          | false =>
            exfalso
            apply c
            rw [decide_eq_false (fun e => of_decide_eq_false w (by injection e))]
            rfl
        refine ⟨s4, ?_⟩
        rw [hD, List.take_add_one, hz, List.filter_append]
        show some (HO.lst _) = some (HO.lst ((_ ++ List.filter _ [z]).map V.str))
        rw [List.filter_cons_of_neg (by simpa using c'), List.filter_nil, List.append_nil]
    · rintro H4 ⟨s4, hD⟩
      rw [List.length_map, List.take_of_length_le (Nat.le_refl _)] at hD
      refine ⟨_, rfl, m, _, rfl, DPut.k (k := .inr "links") (s4 _ _ x.at_) (by show 7 < sizeLine; decide), ?_⟩
      rw [mp_links st am D (st.lk.filter (· ≠ o))]
      exact q _ D (x.lnk nD s4 hD)
/-- an ask of its own -/
def spStart (K : PySem.W.Frag) : Sp := fun vs H Q _ => ∃ (m pa : Addr) (xs : List Str) (c : Nat) (st : HS) (am : HA), vs = [.ref m, .ref pa, .int (c : Int)] ∧ Mst K H m st am ∧ Tz H pa (xs.map V.str) ∧ 1 < xs.length ∧
  ∀ H' jv L us, Am K m am H H' { st with jn := some (xs, c), sg := "reserved" } { am with jv := jv } → H L = none → H' L = some (.lst us) → Dns K (fz H') us [ctlD xs c (xs.getD 1 "", "ask")] → Q (.ref L) H'
theorem ok_start {f : Addr} {fd : FuncData} (F : Fun K "_law_started" "_law_started" s_law_started f fd) (Y : Bn mg) : FnOk P w K mg base CX0 1 f fd ["_law_model", "_law_path_here", "_law_cut"] (spStart K) := by
  refine F.ok sc_law_started (fun vs H Q E h => ?_) (fun cdv A outer s H vs Q E hr h => ?_)
  · obtain ⟨m, pa, xs, c, st, am, rfl, _⟩ := h
    rfl
  · obtain ⟨m, pa, xs, c, st, am, rfl, x, zp, lx, q⟩ := h
    refine ⟨_, (pss_cons (ps_expr (pe_bm PySem.F.plainAttrs_dict PySem.F.slot_dict_update PySem.F.type_dict_update mt_upd (pv 0) (pa_cons (pe_disp (pps_cons pe_str (pe_tupZ (pa_cons (pv 1) (pa_cons (pv 2) pa_nil))) (pps_cons pe_str pe_str pps_nil)) (by rfl) (by rfl) (fun z => by cases z) (by decide)) pa_nil)))
 (pss_one (ps_ret (pe_lst (pa_cons (pe_tupZ (pa_cons (pe_ix ix_tup (pv 1) pe_int (fun _ _ => rfl)) (pa_cons (pe_tupZ (pa_cons pe_str (pa_cons (pv 1) (pa_cons (pv 2) pa_nil)))) pa_nil))) pa_nil))))), ?_⟩
    refine ⟨_, rfl, .inr (.inr (.inl ⟨rfl, .inl ⟨_, x.at_⟩⟩)), fun d nd => ?_⟩
    have md : m ≠ d := ne_of_none x.at_ nd
    have s1 := same_upd (o := .dK []) nd
    have g1 : (upd H d (.dK [])) d = some (.dK []) := upd_same
    generalize upd H d (.dK []) = H1 at s1 g1 ⊢
    refine ⟨_, rfl, _, rfl, (by show 2 ≤ sizeLine; decide), fun t o nt s2 z2 => ?_⟩
    have g2 := s2 _ _ g1
    generalize upd H1 t o = H2 at s2 g2 z2 ⊢
    have x2 := x.same (s1.trans s2)
    refine ⟨g2, [(.inr "relink", .ref t), (.inr "phase", .str "reserved")], rfl, (by show 2 ≤ 15; decide), ?_⟩
    rw [show mergeK [] ([(.inr "relink", .ref t), (.inr "phase", .str "reserved")] : List (L2.Key × V)) = [(.inr "relink", .ref t), (.inr "phase", .str "reserved")] from rfl]
    refine ⟨m, d, _, _, rfl, rfl, md, (upd_ne md).trans x2.at_, upd_same, (by show 7 + 2 ≤ sizeLine; decide), ?_⟩
    rw [show mergeK (mdl st am) [(.inr "relink", .ref t), (.inr "phase", .str "reserved")] = mdl { st with jn := some (xs, c), sg := "reserved" } { am with jv := .ref t } from rfl]
    have s3 : Same H (upd H2 d (.dK [(.inr "relink", .ref t), (.inr "phase", .str "reserved")])) := fun b u e => (upd_ne (ne_of_none e nd)).trans ((s1.trans s2) _ _ e)
    have f3 : FzK H2 (upd H2 d (.dK [(.inr "relink", .ref t), (.inr "phase", .str "reserved")])) := (FzK.refl H2).upd g2 (fun _ _ z => nomatch z)
    have z3 := z2.fzk f3
    generalize upd H2 d (.dK [(.inr "relink", .ref t), (.inr "phase", .str "reserved")]) = H3 at s3 z3 ⊢
    have x3 := x.same s3
    have zp3 := zp.same s3
    have a3 := x3.put (jv := .ref t) (jn := some (xs, c)) (sg := "reserved") ⟨t, pa, rfl, Tz.fz z3, Tz.fz zp3⟩
    have a4 := Am.back s3 a3
    generalize upd H3 m (.dK (mdl { st with jn := some (xs, c), sg := "reserved" } { am with jv := .ref t })) = H4 at a3 a4 ⊢
    have zp4 := zp.fzk a4.fk
    refine ⟨_, rfl, pa, _, 1, _, rfl, rfl, zp4.sq, at_nat (i := 1) lx, _, rfl, _, rfl, (by show 3 ≤ sizeLine; decide), fun t1 o1 n1 s5 z5 => ?_⟩
    generalize upd H4 t1 o1 = H5 at s5 z5 ⊢
    refine ⟨(by show 2 ≤ sizeLine; decide), fun t2 o2 n2 s6 z6 => ?_⟩
    generalize upd H5 t2 o2 = H6 at s6 z6 ⊢
    refine ⟨(by show 1 ≤ sizeLine; decide), fun L nL => ?_⟩
    have s7 := same_upd (o := .lst [.ref t2]) nL
    have s47 := s5.trans (s6.trans s7)
    refine q _ (.ref t) L _ (a4.same s47) (a4.off.dm _ (same_no (s5.trans s6) nL)) upd_same (.cons ?_ .nil)
    exact .tup (Tz.fz (z6.same s7)) (.cons (.str _) (.cons (.tup (Tz.fz (z5.same (s6.trans s7))) (.cons (.str _) (.cons (.tup (Tz.fz (zp4.same s47)) (dns_strs' xs)) (.cons (.int _) .nil)))) .nil))
end
end My

namespace My
open PySem PySem.Spec PyProof.Rows L2 Gy Xl Xs Xt Xo Xp Xu
/-! ### the model receives an ask -/
def askN (st : HS) (s : Str) (xs : List Str) (c j : Nat) : HS × List PyData :=
  if canJ st xs j = true then (actS xs c (askS xs c j) st, (askS xs c j).sends.map (ctlD xs c)) else (st, [ctlD xs c (s, "no")])
section
variable {P : Program} {w : World} {K : PySem.W.Frag} {mg : Str → Option Value} {base : Heap} {H H1 H2 : Hp}
theorem Mst.que {m : Addr} {st : HS} {am : HA} {lv : List V} {v : V} {d : PyData} (x : Mst K H m st am) (e : H am.Lq = some (.lst lv)) (dl : Dns K (fz H) lv st.qu) (dn : Dn K (fz H) v d) : Am K m am H (upd H am.Lq (.lst (lv ++ [v]))) { st with qu := st.qu ++ [d] } am := by
  have fk0 := (FzK.refl H).upd (w := .lst (lv ++ [v])) e (fun _ _ z => nomatch z)
  have fk := fz_keep fk0
  obtain ⟨v2, a2, b2⟩ := x.an
  obtain ⟨v3, a3, b3⟩ := x.lg
  obtain ⟨s1, s2, s3, s4, s5, s6⟩ := x.sep
  exact ⟨⟨fun b u e _ _ n _ => (upd_ne n).trans e, fun b n => by
    by_cases e : b = am.Lq
    · rw [e, upd_same] at n
      cases n
    · rw [upd_ne e] at n
      exact n⟩, NewA.refl, fk0, ⟨(upd_ne (ne_dk e x.at_).symm).trans x.at_, (upd_ne s2).trans x.lk, ⟨v3, (upd_ne s4).trans a3, b3.same fk⟩, x.jn.same fk, ⟨_, upd_same, dns_app (dl.same fk) (.cons (dn.same fk) .nil)⟩, ⟨v2, (upd_ne s6.symm).trans a2, b2.same fk⟩, x.sep⟩⟩
theorem act_ph {xs : List Str} {c : Nat} {st : HS} {r : Res} (h : r.ph ≠ "free") : actS xs c r st = { (ocS xs c r.oc (rmS r.rm (addS r.ad st))) with sg := r.ph, jn := some (xs, c) } := by
  unfold actS phS
  rw [if_neg h]
theorem if_use {t : TT} {A B rest : TS} {D : Ends} {σ : L2.St} {H : Hp} (b : Bool) (h1 : ∀ Q' : Bool → Hp → Prop, Q' b H → t σ H Q') (hT : b = true → A { D with nx := rest D } σ H) (hF : b = false → B { D with nx := rest D } σ H) : tSeq (tIfS t A B) rest D σ H := by
  refine h1 _ ?_
  cases b with
  | true => exact hT rfl
  | false => exact hF rfl
theorem jv_isM {m : Addr} {st : HS} {am : HA} (x : Mst K H m st am) : decide (am.jv = V.non) = st.jn.isNone := by
  have jj := x.jn
  cases ej : st.jn with
  | none =>
    rw [ej] at jj
    have e : am.jv = .non := jj
    rw [e]
    rfl
  | some p =>
    rw [ej] at jj
    obtain ⟨xs, c⟩ := p
    obtain ⟨t, pa, e, _⟩ := jj
    rw [e]
    rfl
theorem posn_get {xs : List Str} {nm : Str} {j : Nat} (nd : xs.Nodup) (h : posn xs (.str nm) = some j) : xs[j]? = some nm ∧ ∀ m, m < j → xs[m]? ≠ some nm := by
  have lt := posn_lt h
  have e := posn_is nd h
  have g : xs[j]? = some nm := by
    rw [← e, List.getD_eq_getElem?_getD, List.getElem?_eq_getElem lt]
    rfl
  refine ⟨g, fun m lm em => ?_⟩
  have lm2 : m < xs.length := by omega
  have z : xs.getD m "" = nm := by
    rw [List.getD_eq_getElem?_getD, em]
    rfl
  exact absurd (getD_inj nd lm2 lt (z.trans e.symm)) (by omega)
def spAskM (K : PySem.W.Frag) (g : HS → Str → List Str → Nat → Nat → HS × List PyData) : Sp := fun vs H Q _ => ∃ (m ia pa : Addr) (s : Str) (xs : List Str) (c j : Nat) (st : HS) (am : HA), vs = [.ref m, .str s, .ref ia] ∧ Mst K H m st am ∧ AskAt H ia pa xs c j st.nm ∧ st.lk.length < 50 ∧ st.qu.length ≤ 1000 ∧ (∀ xs c, st.jn = some (xs, c) → 0 < xs.length) ∧
  ∀ H' am' L us, Am K m am H H' (g st s xs c j).1 am' → H L = none → H' L = some (.lst us) → Dns K (fz H') us (g st s xs c j).2 → Q (.ref L) H'
theorem ok_askM {f : Addr} {fd : FuncData} (F : Fun K "_law_asked" "_law_asked" s_law_asked f fd) (Y : Bn mg) (G_law_linked : Fk P w K mg base CX0 1 "_law_linked" ["_law_model", "_law_other"] (spLnk K fun xs o => srt (xs ++ [o]))) (G_law_unlinked : Fk P w K mg base CX0 1 "_law_unlinked" ["_law_model", "_law_other"] (spLnk K fun xs o => xs.filter (· ≠ o))) :
    FnOk P w K mg base CX0 2 f fd ["_law_model", "_law_source", "_law_item"] (spAskM K askN) := by
  refine F.ok sc_law_asked (fun vs H Q E h => ?_) (fun cdv A outer s H vs Q E hr h => ?_)
  · obtain ⟨m, ia, pa, s, xs, c, j, st, am, rfl, _⟩ := h
    rfl
  · obtain ⟨m, ia, pa, s, xs, c, j, st, am, rfl, x, ask, few, _, _, q⟩ := h
    have hu1 := hu_of hr
    refine ⟨_, (pss_cons (ps_asg (pe_slice sl_cutA (pv 2) (po_some pe_int) po_none) (pg_tup (by rfl) (pgs_cons (pg_name (i := 3) sc_law_asked.nd rfl (Or.inl rfl)) (pgs_cons (pg_name (i := 4) sc_law_asked.nd rfl (Or.inl rfl)) pgs_nil))))
 (pss_cons (ps_par (i := 5) (j := 6) (by rfl) sc_law_asked.nd rfl rfl (by decide) rfl rfl (pa_cons (pe_tm PySem.F.slot_tuple_index PySem.F.type_tuple_index mt_tup_index (pv 3) (pa_cons (pe_dget hu1 (pv 0) pe_str (fun _ _ => rfl)) pa_nil)) (pa_cons (pe_op op_sub (pe_callB call_len_seq (by rfl) Y.len PySem.boot_len (pa_cons (pv 3) pa_nil)) pe_int) pa_nil)) (by rfl))
 (pss_cons (ps_if (PW.pt (pw_or (pt_cmpR op_notN (pe_dget hu1 (pv 0) pe_str (fun _ _ => rfl)) pe_non (nomark _)) (pw_or1 (PW.pt (pw_and (pt_cmpR op_lt (pv 5) (pv 6) (nomark _)) (pw_and1 (pt_cmpR op_notIn_seq (pe_ix ix_tup (pv 3) (pe_op op_add (pv 5) pe_int) (fun _ _ => rfl)) (pe_dget hu1 (pv 0) pe_str (fun _ _ => rfl)) rfl)))))))
 (pss_one (ps_ret (pe_lst (pa_cons (pe_tupZ (pa_cons (pv 1) (pa_cons (pe_tupZ (pa_cons pe_str (pa_cons (pv 3) (pa_cons (pv 4) pa_nil)))) pa_nil))) pa_nil))))
 pss_nil)
 (pss_cons (ps_dput hu1 (pv 0) pe_str (pe_tupZ (pa_cons (pv 3) (pa_cons (pv 4) pa_nil))) rfl)
 (pss_cons (ps_if (pt_cmpR op_lt (pv 5) (pv 6) (nomark _))
 (pss_cons (ps_dput hu1 (pv 0) pe_str pe_str rfl)
 (pss_one (ps_ret (pe_lst (pa_cons (pe_tupZ (pa_cons (pe_ix ix_tup (pv 3) (pe_op op_add (pv 5) pe_int) (fun _ _ => rfl)) (pa_cons (pv 2) pa_nil))) pa_nil)))))
 pss_nil)
 (pss_cons (ps_dput hu1 (pv 0) pe_str pe_str rfl)
 (pss_cons (ps_expr (pe_callF G_law_linked (hr.mono (by decide)) (by rfl) pass0 (pa_cons (pv 0) (pa_cons (pe_ix ix_tup (pv 3) pe_int (fun _ _ => rfl)) pa_nil))))
 (pss_cons (ps_if (pt_cmpR op_eq (pe_op op_sub (pv 5) pe_int) (pv 4) (nomark _))
 (pss_one (ps_expr (pe_callF G_law_unlinked (hr.mono (by decide)) (by rfl) pass0 (pa_cons (pv 0) (pa_cons (pe_ix ix_tup (pv 3) (pe_op op_sub (pv 5) pe_int) (fun _ _ => rfl)) pa_nil)))))
 pss_nil)
 (pss_one (ps_ret (pe_lst (pa_cons (pe_tupZ (pa_cons (pe_ix ix_tup (pv 3) (pe_op op_sub (pv 5) pe_int) (fun _ _ => rfl)) (pa_cons (pe_tupZ (pa_cons pe_str (pa_cons (pv 3) (pa_cons (pv 4) pa_nil)))) pa_nil))) pa_nil)))))))))))), ?_⟩
    have on := ask.onR (ra := ia)
    obtain ⟨xs', c', e, l3, nd, cl, _⟩ := rel_parts ask.ir
    obtain ⟨rfl, rfl⟩ := reld_inj e
    have jl := posn_lt ask.ps
    have j0 := ask.j0
    refine ⟨_, rfl, 1, rfl, ia, _, rfl, ask.it, ?_⟩
    rw [cut1]
    refine ⟨fun z => absurd (congrArg List.length z) (by show ¬ 2 = 3; decide), fun t o nt s1 z1 => ?_⟩
    generalize upd H t o = H1 at s1 z1 ⊢
    have x1 := x.same s1
    have ask1 := ask.same s1
    refine ⟨t, _, rfl, z1.sq, rfl, _, _, rfl, _, _, rfl, rfl, ?_⟩
    obtain ⟨pg, pf⟩ := posn_get nd ask.ps
    refine ⟨_, rfl, ⟨pa, _, rfl, ask1.pa⟩, _, rfl, m, _, rfl, DGet.k (k := .inr "name") x1.at_, pa, xs, _, j, rfl, rfl, ask1.pa.sq, pg, pf, ?_⟩
    refine ⟨_, rfl, pa, _, rfl, .inr ask1.pa.sq, _, _, rfl, rfl, _, _, rfl, ?_⟩
    rw [List.length_map]
    dsimp only
    -- whether it can join
    have lx : ((xs.length : Nat) : Int) - 1 = ((xs.length - 1 : Nat) : Int) := by omega
    refine if_use (b := !canJ st xs j) (fun Q' hq => ?_) (fun ec => ?_) (fun ec => ?_)
    · unfold canJ at hq
      refine ⟨_, rfl, m, _, rfl, DGet.k (k := .inr "relink") x1.at_, ?_⟩
      refine ⟨rfl, _, rfl, ?_⟩
      rw [jv_isM x1]
      cases ej : st.jn with
      | some p =>
        rw [ej] at hq
        exact iteT hq
      | none =>
        rw [ej] at hq
        refine iteF ⟨_, rfl, _, rfl, _, _, rfl, rfl, _, rfl, ite2 (fun c1 => ?_) (fun c1 => ?_)⟩
        · have c1' : j + 1 < xs.length := by
            have := of_decide_eq_true c1
            omega
          rw [decide_eq_false (show ¬ j + 1 = xs.length by omega)] at hq
          refine ⟨_, rfl, _, rfl, _, _, rfl, rfl, pa, _, _, _, rfl, rfl, ask1.pa.sq, at_succ c1', ?_⟩
          refine ⟨_, rfl, m, _, rfl, DGet.k (k := .inr "links") x1.at_, am.Lk, _, rfl, .inl (SqL.of x1.lk), rfl, flat_strs _, _, rfl, ?_⟩
          rw [if_pos rfl, inV_strs]
          exact hq
        · have c1' : j + 1 = xs.length := by
            have : ¬ (j : Int) < ((xs.length : Nat) : Int) - 1 := fun z => c1 (decide_eq_true z)
            omega
          rw [decide_eq_true c1'] at hq
          exact hq
    · have ec' : canJ st xs j = false := by simpa using ec
      unfold askN at q
      rw [if_neg (by rw [ec']; decide)] at q
      refine ⟨_, rfl, _, rfl, _, rfl, (by show 3 ≤ sizeLine; decide), fun t2 o2 n2 s3 z3 => ?_⟩
      generalize upd H1 t2 o2 = H3 at s3 z3 ⊢
      refine ⟨(by show 2 ≤ sizeLine; decide), fun t3 o3 n3 s4 z4 => ?_⟩
      generalize upd H3 t3 o3 = H4 at s4 z4 ⊢
      refine ⟨(by show 1 ≤ sizeLine; decide), fun L nL => ?_⟩
      have s5 := same_upd (o := .lst [.ref t3]) nL
      have s35 := s3.trans (s4.trans s5)
      refine q _ am L _ ((Am.refl x).same (s1.trans s35)) (same_no (s1.trans (s3.trans s4)) nL) upd_same (.cons ?_ .nil)
      exact .tup (Tz.fz (z4.same s5)) (.cons (.str s) (.cons (.tup (Tz.fz (z3.same (s4.trans s5))) (.cons (.str _) (.cons (.tup (Tz.fz (ask1.pa.same s35)) (dns_strs' xs)) (.cons (.int _) .nil)))) .nil))
    have ec' : canJ st xs j = true := by simpa using ec
    unfold askN at q
    rw [if_pos ec'] at q
    dsimp only
    -- the relink
    refine ⟨_, rfl, _, rfl, (by show 2 ≤ sizeLine; decide), fun t2 o2 n2 s2 z2 => ?_⟩
    generalize upd H1 t2 o2 = H2 at s2 z2 ⊢
    have s02 := s1.trans s2
    have x2 := x.same s02
    have ask2 := ask.same s02
    refine ⟨_, rfl, m, _, rfl, DPut.k (k := .inr "relink") x2.at_ (by show 7 < sizeLine; decide), ?_⟩
    rw [mp_relink st am (.ref t2) (some (xs, c))]
    have a3 : Am K m am H2 _ { st with jn := some (xs, c) } { am with jv := .ref t2 } := x2.put (jv := .ref t2) (jn := some (xs, c)) (sg := st.sg) ⟨t2, pa, rfl, Tz.fz z2, Tz.fz ask2.pa⟩
    generalize upd H2 m (.dK (mdl { st with jn := some (xs, c) } { am with jv := .ref t2 })) = H3 at a3 ⊢
    have x3 := a3.hx
    have jn3 := x3.jn
    refine ⟨_, rfl, _, rfl, _, _, rfl, rfl, _, rfl, ite2 (fun c1 => ?_) (fun c1 => ?_)⟩
    · have c1' : j + 1 < xs.length := by
        have := of_decide_eq_true c1
        omega
      rw [show askS xs c j = ⟨[(xs.getD (j + 1) "", "ask")], "reserved", none, none, none⟩ from if_pos c1', act_ph (show ("reserved" : Str) ≠ "free" by decide)] at q
      refine ⟨_, rfl, m, _, rfl, DPut.k (k := .inr "phase") x3.at_ (by show 7 < sizeLine; decide), ?_⟩
      rw [mp_phase]
      have a4 : Am K m am H2 _ { st with jn := some (xs, c), sg := "reserved" } { am with jv := .ref t2 } := a3.trans (x3.put (jv := .ref t2) (jn := some (xs, c)) (sg := "reserved") jn3)
      generalize upd H3 m (.dK (mdl { st with jn := some (xs, c), sg := "reserved" } { am with jv := .ref t2 })) = H4 at a4 ⊢
      have a5 := Am.back s02 a4
      have pa4 := ask2.pa.fzk a4.fk
      have it4 := ask2.it.fzk a4.fk
      refine ⟨_, rfl, _, rfl, _, _, rfl, rfl, pa, _, _, _, rfl, rfl, pa4.sq, at_succ c1', _, rfl, (by show 2 ≤ sizeLine; decide), fun t5 o5 n5 s5 z5 => ?_⟩
      generalize upd H4 t5 o5 = H5 at s5 z5 ⊢
      refine ⟨(by show 1 ≤ sizeLine; decide), fun L nL => ?_⟩
      have s6 := same_upd (o := .lst [.ref t5]) nL
      refine q _ _ L _ (a5.same (s5.trans s6)) (a5.off.dm _ (same_no s5 nL)) upd_same (.cons ?_ .nil)
      exact .tup (Tz.fz (z5.same s6)) (.cons (.str _) (.cons (dn_ctlI (Tz.fz (it4.same (s5.trans s6))) (Tz.fz (pa4.same (s5.trans s6)))) .nil))
    · have c1' : ¬ j + 1 < xs.length := fun z => c1 (decide_eq_true (by omega))
      rw [show askS xs c j = ⟨[(xs.getD (j - 1) "", "yes")], "turned", some (xs.getD 0 ""), cutB xs c j, none⟩ from if_neg c1', act_ph (show ("turned" : Str) ≠ "free" by decide)] at q
      refine ⟨_, rfl, m, _, rfl, DPut.k (k := .inr "phase") x3.at_ (by show 7 < sizeLine; decide), ?_⟩
      rw [mp_phase]
      have a4 : Am K m am H2 _ { st with jn := some (xs, c), sg := "turned" } { am with jv := .ref t2 } := a3.trans (x3.put (jv := .ref t2) (jn := some (xs, c)) (sg := "turned") jn3)
      generalize upd H3 m (.dK (mdl { st with jn := some (xs, c), sg := "turned" } { am with jv := .ref t2 })) = H4 at a4 ⊢
      have pa4 := ask2.pa.fzk a4.fk
      -- the new link
      refine ⟨_, rfl, _, rfl, pa, _, 0, _, rfl, rfl, pa4.sq, at_nat (i := 0) (by omega), m, _, _, _, rfl, a4.hx, (by show st.lk.length < 60; omega), fun H5 D5 a5 => ?_⟩
      have a5 := a4.trans a5
      dsimp only
      refine sq_by (fun H' => ∃ am', Am K m am H2 H' (rmS (cutB xs c j) { st with jn := some (xs, c), sg := "turned", lk := srt (st.lk ++ [xs.getD 0 ""]) }) am') (fun R hR => ?_) (fun H6 hS => ?_)
      · have pa5 := ask2.pa.fzk a5.fk
        refine ⟨_, rfl, _, _, rfl, rfl, _, rfl, rfl, _, rfl, ite2 (fun c2 => ?_) (fun c2 => ?_)⟩
        · have c2' : j = c + 1 := by
            have z := of_decide_eq_true c2
            injection z with z
            omega
          have e : cutB xs c j = some (xs.getD (j - 1) "") := by
            unfold cutB
            rw [if_pos c2', show c = j - 1 by omega]
          rw [e] at hR
          refine ⟨_, rfl, _, rfl, _, rfl, _, _, rfl, rfl, pa, _, _, _, rfl, rfl, pa5.sq, at_pred jl j0, m, _, _, _, rfl, a5.hx, ?_, fun H6 D6 a6 => hR _ ⟨_, a5.trans a6⟩⟩
          show (srt (st.lk ++ [xs.getD 0 ""])).length < 60
          rw [srt_len, List.length_append]
          show st.lk.length + 1 < 60
          omega
        · have c2' : ¬ j = c + 1 := fun z => c2 (decide_eq_true (by
            show V.int ((j : Int) - 1) = V.int (c : Int)
            rw [show ((j : Int) - 1) = (c : Int) by omega]))
          have e : cutB xs c j = none := if_neg c2'
          rw [e] at hR
          exact hR _ ⟨_, a5⟩
      obtain ⟨am6, a6⟩ := hS
      have e6 : rmS (cutB xs c j) { st with jn := some (xs, c), sg := "turned", lk := srt (st.lk ++ [xs.getD 0 ""]) } = { (ocS xs c none (rmS (cutB xs c j) (addS (some (xs.getD 0 "")) st))) with sg := "turned", jn := some (xs, c) } := by
        cases cutB xs c j <;> rfl
      rw [e6] at a6
      have a7 := Am.back s02 a6
      have pa6 := ask2.pa.fzk a6.fk
      refine ⟨_, rfl, _, rfl, _, _, rfl, rfl, pa, _, _, _, rfl, rfl, pa6.sq, at_pred jl j0, _, rfl, _, rfl, (by show 3 ≤ sizeLine; decide), fun t7 o7 n7 s7 z7 => ?_⟩
      generalize upd H6 t7 o7 = H7 at s7 z7 ⊢
      refine ⟨(by show 2 ≤ sizeLine; decide), fun t8 o8 n8 s8 z8 => ?_⟩
      generalize upd H7 t8 o8 = H8 at s8 z8 ⊢
      refine ⟨(by show 1 ≤ sizeLine; decide), fun L nL => ?_⟩
      have s9 := same_upd (o := .lst [.ref t8]) nL
      have s69 := s7.trans (s8.trans s9)
      refine q _ _ L _ (a7.same s69) (a7.off.dm _ (same_no (s7.trans s8) nL)) upd_same (.cons ?_ .nil)
      exact .tup (Tz.fz (z8.same s9)) (.cons (.str _) (.cons (.tup (Tz.fz (z7.same (s8.trans s9))) (.cons (.str _) (.cons (.tup (Tz.fz (pa6.same s69)) (dns_strs' xs)) (.cons (.int _) .nil)))) .nil))
theorem ok_recvM {f : Addr} {fd : FuncData} (F : Fun K "_law_received" "_law_received" s_law_received f fd) (Y : Bn mg) (G_law_awaited : Fk P w K mg base CX0 1 "_law_awaited" ["_law_model"] (spAw K)) (G_law_asked : Fk P w K mg base CX0 2 "_law_asked" ["_law_model", "_law_source", "_law_item"] (spAskM K askN))
    (G_law_spread : Fk P w K mg base CX0 1 "_law_spread" ["_law_model", "_law_message", "_law_source", "_law_bit_here"] spNo) (G_law_agreed : Fk P w K mg base CX0 1 "_law_agreed" ["_law_model", "_law_item"] spNo) (G_law_gone_on : Fk P w K mg base CX0 1 "_law_gone_on" ["_law_model", "_law_item"] spNo)
    (G_law_freed : Fk P w K mg base CX0 1 "_law_freed" ["_law_model"] spNo) (G_law_finished : Fk P w K mg base CX0 1 "_law_finished" ["_law_model", "_law_outcome"] spNo) (G_law_unlinked : Fk P w K mg base CX0 1 "_law_unlinked" ["_law_model", "_law_other"] (spLnk K fun xs o => xs.filter (· ≠ o))) (G_law_refused : Fk P w K mg base CX0 1 "_law_refused" ["_law_model"] spNo) :
    FnOk P w K mg base CX0 3 f fd ["_law_model", "_law_source", "_law_item"] (spAskM K askO) := by
  refine F.ok sc_law_received (fun vs H Q E h => ?_) (fun cdv A outer s H vs Q E hr h => ?_)
  · obtain ⟨m, ia, pa, s, xs, c, j, st, am, rfl, _⟩ := h
    rfl
  · obtain ⟨m, ia, pa, s, xs, c, j, st, am, rfl, x, ask, few, qul, l0, q⟩ := h
    have hu1 := hu_of hr
    have hu64 := hr.units
    refine ⟨_, (pss_cons (ps_if (pt_cmpR op_eq (pe_callF G_law_awaited (hr.mono (by decide)) (by rfl) pass0 (pa_cons (pv 0) pa_nil)) (pv 1) (nomark _))
 (pss_cons (ps_expr (pe_bm PySem.F.plainAttrs_list PySem.F.slot_list_append PySem.F.type_list_append mt_append (pe_dget hu1 (pv 0) pe_str (fun _ _ => rfl)) (pa_cons (pv 2) pa_nil)))
 (pss_one (ps_ret (pe_lst pa_nil))))
 pss_nil)
 (pss_cons (ps_if (pt_cmpR op_eq (pe_ix ix_tup (pv 2) pe_int (fun _ _ => rfl)) pe_str (nomark _))
 (pss_one (ps_ret (pe_callF G_law_spread (hr.mono (by decide)) (by rfl) pass0 (pa_cons (pv 0) (pa_cons (pe_slice sl_cutA (pv 2) (po_some pe_int) (po_some pe_int)) (pa_cons (pv 1) (pa_cons (pe_ix ix_tup (pv 2) pe_int (fun _ _ => rfl)) pa_nil)))))))
 pss_nil)
 (pss_cons (ps_if (pt_cmpR op_eq (pe_ix ix_tup (pv 2) pe_int (fun _ _ => rfl)) pe_str (nomark _))
 (pss_one (ps_ret (pe_callF G_law_asked (hr.mono (by decide)) (by rfl) pass0 (pa_cons (pv 0) (pa_cons (pv 1) (pa_cons (pv 2) pa_nil))))))
 pss_nil)
 (pss_cons (ps_if (pt_cmpR op_eq (pe_ix ix_tup (pv 2) pe_int (fun _ _ => rfl)) pe_str (nomark _))
 (pss_one (ps_ret (pe_callF G_law_agreed (hr.mono (by decide)) (by rfl) pass0 (pa_cons (pv 0) (pa_cons (pv 2) pa_nil)))))
 pss_nil)
 (pss_cons (ps_if (pt_cmpR op_eq (pe_ix ix_tup (pv 2) pe_int (fun _ _ => rfl)) pe_str (nomark _))
 (pss_one (ps_ret (pe_callF G_law_gone_on (hr.mono (by decide)) (by rfl) pass0 (pa_cons (pv 0) (pa_cons (pv 2) pa_nil)))))
 pss_nil)
 (pss_cons (ps_if (pt_cmpR op_eq (pe_ix ix_tup (pv 2) pe_int (fun _ _ => rfl)) pe_str (nomark _))
 (pss_cons (ps_set (i := 3) sc_law_received.nd rfl (.inl rfl) (pe_tm PySem.F.slot_tuple_index PySem.F.type_tuple_index mt_tup_index (pe_ix ix_tup (pv 2) pe_int (fun _ _ => rfl)) (pa_cons (pe_dget hu1 (pv 0) pe_str (fun _ _ => rfl)) pa_nil)))
 (pss_one (ps_ret (pe_ifExp (pt_cmpR op_gt (pv 3) pe_int (nomark _)) (pe_op op_cat (pe_callF G_law_freed (hr.mono (by decide)) (by rfl) pass0 (pa_cons (pv 0) pa_nil)) (pe_lst (pa_cons (pe_tupZ (pa_cons (pe_ix ix_tup (pe_ix ix_tup (pv 2) pe_int (fun _ _ => rfl)) (pe_op op_sub (pv 3) pe_int) (fun _ _ => rfl)) (pa_cons (pv 2) pa_nil))) pa_nil))) (pe_callF G_law_finished (hr.mono (by decide)) (by rfl) pass0 (pa_cons (pv 0) (pa_cons pe_str pa_nil)))))))
 pss_nil)
 (pss_cons (ps_if (pt_cmpR op_eq (pe_ix ix_tup (pv 2) pe_int (fun _ _ => rfl)) pe_str (nomark _))
 (pss_cons (ps_expr (pe_callF G_law_unlinked (hr.mono (by decide)) (by rfl) pass0 (pa_cons (pv 0) (pa_cons (pv 1) pa_nil))))
 (pss_cons (ps_set (i := 4) sc_law_received.nd rfl (.inl rfl) (pe_ifExp (pt_cmpR op_eq (pe_dget hu1 (pv 0) pe_str (fun _ _ => rfl)) pe_str (nomark _)) (pe_ix ix_tup (pe_dget hu1 (pv 0) pe_str (fun _ _ => rfl)) pe_int (fun _ _ => rfl)) (pe_tupZ pa_nil)))
 (pss_one (ps_if (PW.pt (pw_or (pt_cmpR op_notIn_seq (pv 1) (pv 4) rfl) (pw_or1 (pt_cmpR op_ne (pe_tm PySem.F.slot_tuple_index PySem.F.type_tuple_index mt_tup_index (pv 4) (pa_cons (pv 1) pa_nil)) (pe_op op_add (pe_tm PySem.F.slot_tuple_index PySem.F.type_tuple_index mt_tup_index (pv 4) (pa_cons (pe_dget hu1 (pv 0) pe_str (fun _ _ => rfl)) pa_nil)) pe_int) (nomark _)))))
 (pss_one (ps_ret (pe_lst pa_nil)))
 pss_nil))))
 pss_nil)
 (pss_one (ps_ret (pe_callF G_law_refused (hr.mono (by decide)) (by rfl) pass0 (pa_cons (pv 0) pa_nil))))))))))), ?_⟩
    refine ⟨_, rfl, m, st, am, rfl, x, l0, _, rfl, (by cases awt st <;> rfl), _, rfl, ?_⟩
    unfold askO at q
    refine ite2 (fun c1 => ?_) (fun c1 => ?_)
    · have c1' : awt st = some s := by
        have z := of_decide_eq_true c1
        cases e : awt st with
        | none => rw [e] at z; cases z
        | some y => rw [e] at z; injection z with z; rw [z]
      rw [if_pos c1'] at q
      obtain ⟨lv, el, dl⟩ := x.qu
      have ll := Dns.len dl
      refine ⟨_, rfl, m, _, rfl, DGet.k (k := .inr "queue") x.at_, .inl ⟨rfl, _, SqL.of el⟩, _, rfl, ?_⟩
      refine ⟨am.Lq, lv, .ref ia, rfl, rfl, el, (by rw [sizeLine_eq]; omega), ?_⟩
      have a2 := x.que el dl (dn_ctlI (K := K) (Tz.fz ask.it) (Tz.fz ask.pa))
      refine ⟨Nat.zero_le _, fun L nL => ?_⟩
      exact q _ am L [] (a2.same (same_upd nL)) (a2.off.dm _ nL) upd_same .nil
    have c1' : ¬ awt st = some s := fun z => c1 (decide_eq_true (by rw [z]; rfl))
    rw [if_neg c1'] at q
    refine ⟨_, rfl, ia, _, 0, _, rfl, rfl, ask.it.sq, atI_nat (j := 0) rfl, rfl, _, rfl, iteF ?_⟩
    refine ⟨_, rfl, ia, _, 0, _, rfl, rfl, ask.it.sq, atI_nat (j := 0) rfl, rfl, _, rfl, iteT ?_⟩
    exact ⟨_, rfl, _, rfl, _, rfl, m, ia, pa, s, xs, c, j, st, am, rfl, x, ask, few, qul, l0, q⟩
end
end My

namespace My
open PySem PySem.Spec PyProof.Rows L2 Gy Xl Xs Xt Xo Xp Xu
def okB (n W : Nat) (d : PyData) : Bool := d.showable && d.leavesShort 40 && decide (d.depth ≤ n) && decide (d.weight ≤ W) && sml d
theorem okB.bd {n W : Nat} {d : PyData} (h : okB n W d = true) : Bd n W d := by
  unfold okB at h
  simp only [Bool.and_eq_true, decide_eq_true_eq] at h
  exact ⟨h.1.1.1.1, h.1.1.1.2, h.1.1.2, h.1.2, h.2⟩
theorem all_of {p : PyData → Bool} {ds : List PyData} (h : ds.all p = true) : ∀ d ∈ ds, p d = true := fun d m => List.all_eq_true.mp h d m
theorem rel_no1 {d e : PyData} (h : isPath d = false) : isRel (.tuple [d, e]) = false := by
  cases d with
  | tuple ds =>
    show (isPath (.tuple ds) && isIdx ((ds.length : Int) - 1) e) = false
    rw [h]
    rfl
  | _ => rfl
/-! ### a host shown -/
def jnD : Option (List Str × Nat) → PyData
  | none => .none
  | some (xs, c) => reld xs c
def shownD (st : HS) : PyData := .list [.str st.nm, .list st.lg, .list (st.lk.map PyData.str), .list st.an, jnD st.jn, .str st.sg, .list st.qu]
theorem jn_dn {K : PySem.W.Frag} {H : Hp} {v : V} {j : Option (List Str × Nat)} (h : Jnd H v j) : Dn K H v (jnD j) := by
  match j, h with
  | none, h => rw [show v = .non from h]; exact .non
  | some (xs, c), ⟨t, pa, e, a, b⟩ => rw [e]; exact .tup a (.cons (.tup b (dns_strs xs)) (.cons (.int _) .nil))
section
variable {P : Program} {w : World} {K : PySem.W.Frag} {mg : Str → Option Value} {base : Heap} {H : Hp} {C : Addr}
def spShown (K : PySem.W.Frag) (C : Addr) : Sp := fun vs H Q _ => ∃ (h : Addr) (st : HS) (ad : HA), vs = [.ref h] ∧ Hst K C H h st ad ∧ Fits (shownD st) ∧ ∀ H', Same H H' → Q (.str (shownD st).shown) H'
theorem ok_shown {f : Addr} {fd : FuncData} (F : Fun K "_law_shown" "_law_shown" s_law_shown f fd) (Y : Bn mg) (T : Ch K C) (M_name : Fm P w K mg base CX0 1 C "name" ["self"] (spGet K C fun st _ => .str st.nm)) (M_log : Fm P w K mg base CX0 1 C "log" ["self"] (spLst K C fun st => st.lg))
    (M_links : Fm P w K mg base CX0 1 C "links" ["self"] (spLst K C fun st => st.lk.map PyData.str)) (M_answers : Fm P w K mg base CX0 1 C "answers" ["self"] (spLst K C fun st => st.an)) (M_relink : Fm P w K mg base CX0 1 C "relink" ["self"] (spGet K C fun _ ad => ad.jv))
    (M_phase : Fm P w K mg base CX0 1 C "phase" ["self"] (spGet K C fun st _ => .str st.sg)) (M_queue : Fm P w K mg base CX0 1 C "queue" ["self"] (spLst K C fun st => st.qu)) : FnG P w K mg base CX0 2 f fd ["_law_host"] (spShown K C) := by
  obtain ⟨_, _, MM_name, MB_name, MF_name⟩ := M_name.ex
  obtain ⟨_, _, MM_log, MB_log, MF_log⟩ := M_log.ex
  obtain ⟨_, _, MM_links, MB_links, MF_links⟩ := M_links.ex
  obtain ⟨_, _, MM_answers, MB_answers, MF_answers⟩ := M_answers.ex
  obtain ⟨_, _, MM_relink, MB_relink, MF_relink⟩ := M_relink.ex
  obtain ⟨_, _, MM_phase, MB_phase, MF_phase⟩ := M_phase.ex
  obtain ⟨_, _, MM_queue, MB_queue, MF_queue⟩ := M_queue.ex
  refine fun_g0 F sc_law_shown (fun {vs H Q E} h => ?_) (fun cdv A outer s H vs Q E gd hr h => ?_)
  · obtain ⟨h, st, ad, rfl, _⟩ := h
    rfl
  · obtain ⟨h, st, ad, rfl, x, ft, q⟩ := h
    have hu70 := Room.units70 hr
    refine ⟨_, (pss_one (ps_ret (pe_callB (show CallR _ (.builtin "repr") (rReprN K) from repr_dn gd hu70) (by rfl) Y.repr (by decide +kernel) (pa_cons (pe_lst (pa_cons (pe_meth0 (pv 0) T.cl MM_name MF_name (hr.mono (by decide)) MB_name .nil pass0) (pa_cons (pe_meth0 (pv 0) T.cl MM_log MF_log (hr.mono (by decide)) MB_log .nil pass0) (pa_cons (pe_meth0 (pv 0) T.cl MM_links MF_links (hr.mono (by decide)) MB_links .nil pass0) (pa_cons (pe_meth0 (pv 0) T.cl MM_answers MF_answers (hr.mono (by decide)) MB_answers .nil pass0) (pa_cons (pe_meth0 (pv 0) T.cl MM_relink MF_relink (hr.mono (by decide)) MB_relink .nil pass0) (pa_cons (pe_meth0 (pv 0) T.cl MM_phase MF_phase (hr.mono (by decide)) MB_phase .nil pass0) (pa_cons (pe_meth0 (pv 0) T.cl MM_queue MF_queue (hr.mono (by decide)) MB_queue .nil pass0) pa_nil)))))))) pa_nil)))), ?_⟩
    refine ⟨_, rfl, h, ad.dx, _, rfl, x.at_, (by rfl), h, st, ad, rfl, x, ?_⟩
    refine ⟨_, rfl, h, ad.dx, _, rfl, x.at_, (by rfl), h, st, ad, rfl, x, fun H1 L1 u1 s1 n1 e1 d1 => ?_⟩
    have x1 := x.same s1
    refine ⟨_, rfl, h, ad.dx, _, rfl, x1.at_, (by rfl), h, st, ad, rfl, x1, fun H2 L2 u2 s2 n2 e2 d2 => ?_⟩
    have x2 := x1.same s2
    refine ⟨_, rfl, h, ad.dx, _, rfl, x2.at_, (by rfl), h, st, ad, rfl, x2, fun H3 L3 u3 s3 n3 e3 d3 => ?_⟩
    have x3 := x2.same s3
    refine ⟨_, rfl, h, ad.dx, _, rfl, x3.at_, (by rfl), h, st, ad, rfl, x3, ?_⟩
    refine ⟨_, rfl, h, ad.dx, _, rfl, x3.at_, (by rfl), h, st, ad, rfl, x3, ?_⟩
    refine ⟨_, rfl, h, ad.dx, _, rfl, x3.at_, (by rfl), h, st, ad, rfl, x3, fun H4 L4 u4 s4 n4 e4 d4 => ?_⟩
    have x4 := x3.same s4
    refine ⟨(by show 7 ≤ sizeLine; decide), fun l5 n5 => ?_⟩
    generalize hg : upd H4 l5 _ = H5
    obtain ⟨s5, g5⟩ := upd_new hg n5
    clear hg
    have dd : Dn K H5 (.ref l5) (shownD st) := .lst g5 (.cons (.str _) (.cons (.lst ((((s2.trans s3).trans s4).trans s5) _ _ e1) (((d1.same (fz_same H1)).same (((s2.trans s3).trans s4).trans s5)))) (.cons (.lst (((s3.trans s4).trans s5) _ _ e2) ((d2.same (fz_same H2)).same ((s3.trans s4).trans s5))) (.cons (.lst ((s4.trans s5) _ _ e3) ((d3.same (fz_same H3)).same (s4.trans s5))) (.cons (jn_dn (((x3.jn.same (fz_same H3)).same s4).same s5)) (.cons (.str _) (.cons (.lst (s5 _ _ e4) ((d4.same (fz_same H4)).same s5)) .nil)))))))
    exact ⟨_, _, rfl, dd, ft.1, ft.2.1, ft.2.2, q _ ((((s1.trans s2).trans s3).trans s4).trans s5)⟩
end
theorem shown_fits {st : HS} (h1 : ∀ d ∈ [PyData.str st.nm, .list st.lg, .list (st.lk.map PyData.str), .list st.an, jnD st.jn, .str st.sg, .list st.qu], Bd 10 20000 d) : Fits (shownD st) := (Bd.lst (n := 10) (W := 20000) (L := 7) h1 (by show 7 ≤ 7; decide) (by decide)).fits (by decide) (by decide)
end My

namespace My
open PySem PySem.Spec PyProof.Rows L2 Gy Xl Xs Xt Xo Xp Xu
def KEYS : List Str := ["name", "log", "links", "answers", "relink", "phase", "queue"]
def mvals (st : HS) (am : HA) : List V := [.str st.nm, .ref am.Ll, .ref am.Lk, .ref am.La, am.jv, .str st.sg, .ref am.Lq]
theorem keys_val {st : HS} {am : HA} : ∀ {i : Nat} {k : Str}, KEYS[i]? = some k → ∃ v, (mvals st am)[i]? = some v ∧ valV (mdl st am) (.inr k) = some v
  | 0, k, e => by cases e; exact ⟨_, rfl, rfl⟩
  | 1, k, e => by cases e; exact ⟨_, rfl, rfl⟩
  | 2, k, e => by cases e; exact ⟨_, rfl, rfl⟩
  | 3, k, e => by cases e; exact ⟨_, rfl, rfl⟩
  | 4, k, e => by cases e; exact ⟨_, rfl, rfl⟩
  | 5, k, e => by cases e; exact ⟨_, rfl, rfl⟩
  | 6, k, e => by cases e; exact ⟨_, rfl, rfl⟩
  | n + 7, k, e => by simp [KEYS] at e
section
variable {P : Program} {w : World} {K : PySem.W.Frag} {mg : Str → Option Value} {base : Heap} {H H1 H2 : Hp} {C : Addr}
def spAgr (K : PySem.W.Frag) (C : Addr) : Sp := fun vs H Q _ => ∃ (h m : Addr) (st : HS) (ad am : HA), vs = [.ref h, .ref m] ∧ Hst K C H h st ad ∧ Mst K H m st am ∧ (∀ xs c, st.jn = some (xs, c) → 0 < xs.length) ∧ Fits (shownD st) ∧ ∀ H', Same H H' → Q (.bl true) H'
theorem ok_agr {f : Addr} {fd : FuncData} (F : Fun K "_law_agrees" "_law_agrees" s_law_agrees f fd) (Y : Bn mg) (T : Ch K C) (G_law_shown : Fg P w K mg base CX0 2 "_law_shown" ["_law_host"] (spShown K C)) (M_waits_for : Fm P w K mg base CX0 1 C "waits_for" ["self"] (spWait K C)) (G_law_awaited : Fk P w K mg base CX0 1 "_law_awaited" ["_law_model"] (spAw K)) :
    FnG P w K mg base CX0 3 f fd ["_law_host", "_law_model"] (spAgr K C) := by
  obtain ⟨_, _, MM_waits_for, MB_waits_for, MF_waits_for⟩ := M_waits_for.ex
  refine fun_g0 F sc_law_agrees (fun {vs H Q E} h => ?_) (fun cdv A outer s H vs Q E gd hr h => ?_)
  · obtain ⟨h, m, st, ad, am, rfl, _⟩ := h
    rfl
  · obtain ⟨h, m, st, ad, am, rfl, hx, mx, l0, ft, q⟩ := h
    have hu70 := Room.units70 hr
    have hu1 := hu_of hr
    refine ⟨_, (pss_cons (ps_set (i := 2) sc_law_agrees.nd rfl (.inl rfl) (pe_tupZ (pa_cons pe_str (pa_cons pe_str (pa_cons pe_str (pa_cons pe_str (pa_cons pe_str (pa_cons pe_str (pa_cons pe_str pa_nil)))))))))
 (pss_one (ps_ret (pe_and (pe_cmpR op_eq (pe_callFg (E := E0) G_law_shown gd (hr.mono (by decide)) (by rfl) pass0 (pa_cons (pv 0) pa_nil)) (pe_callB (show CallR _ (.builtin "repr") (rReprN K) from repr_dn gd hu70) (by rfl) Y.repr (by decide +kernel) (pa_cons (pe_lc (own := [("_law_key", 3)]) (g := gName 3) (tt := tYes) rfl sc_law_agrees.nd (pi_tup (pv 2)) (blkOk_by (N := ["_law_host", "_law_model", "_law_keys", "_law_key"]) (sc := defScope s_law_agrees) (by decide +kernel)) (fun _ _ _ _ _ => (pg_name (i := 3) sc_law_agrees.nd rfl (Or.inl rfl))) (fun _ _ _ _ _ => pts_nil) (fun _ _ _ _ _ => (pe_dget hu1 (pv 1) (pv 3) (fun _ _ => rfl)))) pa_nil)) (nomark _)) (pe_one (pe_cmpR op_eq (pe_meth0 (pv 0) T.cl MM_waits_for MF_waits_for (hr.mono (by decide)) MB_waits_for .nil pass0) (pe_callF G_law_awaited (hr.mono (by decide)) (by rfl) pass0 (pa_cons (pv 1) pa_nil)) (nomark _))))))), ?_⟩
    refine ⟨(by show 7 ≤ sizeLine; decide), fun t o nt s1 z1 => ?_⟩
    generalize upd H t o = H1 at s1 z1 ⊢
    refine ⟨_, rfl, h, st, ad, rfl, hx.same s1, ft, fun H2 s2 => ?_⟩
    have z2 := z1.same s2
    have s02 := s1.trans s2
    have mx2 := mx.same s02
    refine ⟨_, rfl, t, rfl, ⟨_, z2.sq⟩, fun D nD => ?_⟩
    refine lc_it (walk_tup (K := K) (a := t) (xs := KEYS.map V.str)) (fun i H' => Same H2 H' ∧ H' D = some (.lst ((mvals st am).take i)))
      ⟨same_upd nD, upd_same⟩ (fun i H' _ hI => (z2.same hI.1).sq) ?_ ?_
    · rintro i y H3 H4 hi ⟨s3, hD⟩ ⟨rfl, hy⟩
      rw [List.getElem?_map] at hy
      obtain ⟨k, hk, rfl⟩ := Option.map_eq_some_iff.mp hy
      obtain ⟨v, hv, ev⟩ := keys_val (st := st) (am := am) hk
      refine ⟨rfl, ?_⟩
      dsimp only [tYes]
      refine iteT ?_
      have g := DGet.k (k := .inr k) (mx2.same s3).at_
      rw [ev] at g
      refine ⟨_, rfl, _, rfl, m, v, rfl, g, _, hD, ?_, same_upd2 s3 nD, ?_⟩
      · refine small200 (Nat.le_trans (List.length_take_le _ _) ?_)
        have : i < 7 := hi
        omega
      · rw [upd_same, List.take_add_one, hv]
        rfl
    · rintro H3 ⟨s3, hD⟩
      have hD : H3 D = some (.lst (mvals st am)) := hD
      have mx3 := mx2.same s3
      obtain ⟨vl, el, dl⟩ := mx3.lg
      obtain ⟨vq, eq, dq⟩ := mx3.qu
      obtain ⟨va, ea, da⟩ := mx3.an
      have f := fz_same H3
      have dd : Dn K H3 (.ref D) (shownD st) := .lst hD (.cons (.str _) (.cons (.lst el (dl.same f)) (.cons (.lst mx3.lk (dns_strs' _)) (.cons (.lst ea (da.same f)) (.cons (jn_dn (mx3.jn.same f)) (.cons (.str _) (.cons (.lst eq (dq.same f)) .nil)))))))
      refine ⟨_, _, rfl, dd, ft.1, ft.2.1, ft.2.2, rfl, _, rfl, ?_⟩
      rw [decide_eq_true rfl]
      have s03 := s02.trans s3
      refine iteT ⟨_, rfl, h, ad.dx, _, rfl, (hx.same s03).at_, (by rfl), h, st, ad, rfl, hx.same s03, l0, _, rfl, m, st, am, rfl, mx3, l0, (by cases awt st <;> rfl), ?_⟩
      rw [decide_eq_true rfl]
      exact q _ s03
end
end My

namespace My
open PySem PySem.Spec PyProof.Rows L2 Gy Xl Xs Xt Xo Xp Xu
/-! ### a path is drawn -/
theorem seq_ix {k n : Nat} (h : k < n) : seqIndex? (k : Int) n = some k := by
  unfold seqIndex?
  dsimp only
  rw [if_neg (show ¬ (k : Int) < 0 by omega), if_pos (by rw [Bool.and_eq_true, decide_eq_true_eq, decide_eq_true_eq]; omega)]
  rfl
theorem map_erase {α β : Type} (f : α → β) : ∀ (xs : List α) (k : Nat), (xs.map f).eraseIdx k = (xs.eraseIdx k).map f
  | [], _ => rfl
  | _ :: _, 0 => rfl
  | x :: xs, k + 1 => by
    show f x :: (xs.map f).eraseIdx k = f x :: (xs.eraseIdx k).map f
    rw [map_erase f xs k]
theorem erase_perm {α : Type} : ∀ {xs : List α} {k : Nat} {x : α}, xs[k]? = some x → (x :: xs.eraseIdx k).Perm xs
  | [], k, x, h => by simp at h
  | y :: ys, 0, x, h => by
    simp at h
    subst h
    exact List.Perm.refl _
  | y :: ys, k + 1, x, h => by
    have z := erase_perm (xs := ys) (k := k) (by simpa using h)
    exact (List.Perm.swap y x _).trans (z.cons y)
theorem map_set {α β : Type} (f : α → β) (xs : List α) (k : Nat) (y : α) : (xs.map f).set k (f y) = (xs.set k y).map f := by
  rw [List.map_set]
theorem nodup_set {y : Str} : ∀ {xs : List Str} {k : Nat}, xs.Nodup → y ∉ xs → (xs.set k y).Nodup
  | [], _, nd, _ => nd
  | x :: xs, 0, nd, h => List.nodup_cons.mpr ⟨fun z => h (List.mem_cons_of_mem _ z), (List.nodup_cons.mp nd).2⟩
  | x :: xs, k + 1, nd, h => by
    obtain ⟨n1, n2⟩ := List.nodup_cons.mp nd
    refine List.nodup_cons.mpr ⟨fun z => ?_, nodup_set n2 (fun z => h (List.mem_cons_of_mem _ z))⟩
    rcases List.mem_or_eq_of_mem_set z with z | z
    · exact n1 z
    · exact h (z ▸ List.mem_cons_self)
theorem but_none {r l : Addr} {H H' : Hp} (b : But r H H') (n : l ≠ r) (e : H' l = none) : H l = none := by
  cases z : H l with
  | none => rfl
  | some o => rw [b _ _ n z] at e; cases e
section
variable {P : Program} {w : World} {K : PySem.W.Frag} {mg : Str → Option Value} {base : Heap} {H H1 H2 : Hp} {C : Addr}
/-- the path and the cut that are drawn -/
structure PathOk (xs : List Str) (c : Nat) (nm : Str) : Prop where
  l3 : 3 ≤ xs.length
  l5 : xs.length ≤ 5
  nd : xs.Nodup
  nms : ∀ x ∈ xs, Nm x
  mem : nm ∈ xs
  cl : c + 2 ≤ xs.length
structure StN (st : HS) : Prop where
  nm : Nm st.nm
  lkn : ∀ x ∈ st.lk, Nm x
  nd : st.lk.Nodup
  nin : st.nm ∉ st.lk
  len : st.lk.length ≤ 8
def spPathL (K : PySem.W.Frag) : Sp := fun vs H Q _ => ∃ (r m lo : Addr) (st : HS) (am : HA) (os : List Str), vs = [.ref r, .ref m, .ref lo] ∧ Rng H r ∧ lo ≠ r ∧ H lo = some (.lst (os.map V.str)) ∧ Mst K (wo r H) m st am ∧ StN st ∧ os.length = 5 ∧ os.Nodup ∧ (∀ x ∈ os, Nm x) ∧ st.nm ∉ os ∧
  ∀ H' t p xs c, But r H H' → Rng H' r → Tz H' t [.ref p, .int ((c : Nat) : Int)] → Tz H' p (xs.map V.str) → PathOk xs c st.nm → Q (.ref t) H'
theorem ok_pathL {f : Addr} {fd : FuncData} (F : Fun K "_law_path" "_law_path" s_law_path f fd) (Y : Bn mg) (G_law_draw : Fk P w K mg base CX0 1 "_law_draw" ["_law_pot_here", "_law_count"] spDraw) : FnOk P w K mg base CX0 2 f fd ["_law_pot_here", "_law_model", "_law_others"] (spPathL K) := by
  refine F.ok sc_law_path (fun vs H Q E h => ?_) (fun cdv A outer s H vs Q E hr h => ?_)
  · obtain ⟨r, m, lo, st, am, os, rfl, _⟩ := h
    rfl
  · obtain ⟨r, m, lo, st, am, os, rfl, R, nlo, ho, mx, sn, o5, ond, onm, onin, q⟩ := h
    have hu1 := hu_of hr
    refine ⟨_, (pss_cons (ps_par (i := 3) (j := 4) (by rfl) sc_law_path.nd rfl rfl (by decide) rfl rfl (pa_cons (pe_op op_add pe_int (pe_callF G_law_draw (hr.mono (by decide)) (by rfl) pass0 (pa_cons (pv 0) (pa_cons pe_int pa_nil)))) (pa_cons (pe_callF G_law_draw (hr.mono (by decide)) (by rfl) pass0 (pa_cons (pv 0) (pa_cons pe_int pa_nil))) pa_nil)) (by rfl))
 (pss_cons (ps_set (i := 5) sc_law_path.nd rfl (.inl rfl) (pe_op op_cat (pe_dget hu1 (pv 1) pe_str (fun _ _ => rfl)) (pe_lc (own := [("_law_other", 8)]) (g := gName 8) (tt := tTest (tOp (rIn K true) (tVar 8) (tDGet (tVar 1) (tC (.str "links"))))) rfl sc_law_path.nd (pi_list (pv 2)) (blkOk_by (N := ["_law_pot_here", "_law_model", "_law_others", "_law_size", "_law_place", "_law_rest", "_law_found", "_law_k", "_law_other"]) (sc := defScope s_law_path) (by decide +kernel)) (fun _ _ _ _ _ => (pg_name (i := 8) sc_law_path.nd rfl (Or.inl rfl))) (fun _ _ _ _ _ => (pts_one (pt_cmpR (show OpR _ (compareOp .NotIn) (rIn K true) from op_notIn_seq) (pv 8) (pe_dget hu1 (pv 1) pe_str (fun _ _ => rfl)) rfl))) (fun _ _ _ _ _ => (pv 8)))))
 (pss_cons (ps_set (i := 6) sc_law_path.nd rfl (.inl rfl) (pe_lst pa_nil))
 (pss_cons (ps_for PassesOwn.never rfl (pi_range1 (by rfl) Y.range (pa_cons (pv 3) pa_nil)) (pg_name (i := 7) sc_law_path.nd rfl (Or.inl rfl))
 (pss_one (ps_expr (pe_bm PySem.F.plainAttrs_list PySem.F.slot_list_append PySem.F.type_list_append mt_append (pv 6) (pa_cons (pe_bm PySem.F.plainAttrs_list PySem.F.slot_list_pop PySem.F.type_list_pop mt_popAt (pv 5) (pa_cons (pe_callF G_law_draw (hr.mono (by decide)) (by rfl) pass0 (pa_cons (pv 0) (pa_cons (pe_callB call_len_seq (by rfl) Y.len PySem.boot_len (pa_cons (pv 5) pa_nil)) pa_nil))) pa_nil)) pa_nil)))))
 (pss_cons (ps_asg (pe_dget hu1 (pv 1) pe_str (fun _ _ => rfl)) (pg_sub (pv 6) (pe_callB (call_min2 rfl) (by rfl) Y.min (by decide +kernel) (pa_cons (pv 4) (pa_cons (pe_op op_sub (pv 3) pe_int) pa_nil))) set_list))
 (pss_one (ps_ret (pe_tupZ (pa_cons (pe_callTy call_tupOf (by rfl) Y.tuple (by decide +kernel) (pa_cons (pv 6) pa_nil)) (pa_cons (pe_callF G_law_draw (hr.mono (by decide)) (by rfl) pass0 (pa_cons (pv 0) (pa_cons (pe_op op_sub (pv 3) pe_int) pa_nil))) pa_nil)))))))))), ?_⟩
    -- size, place
    refine ⟨_, rfl, r, 3, rfl, R, by decide, by decide, fun H1 e b1 R1 e0 e1 => ?_⟩
    refine ⟨_, _, rfl, rfl, _, rfl, r, 5, rfl, R1, by decide, by decide, fun H2 pl b2 R2 p0 p1 => ⟨_, _, rfl, ?_⟩⟩
    obtain ⟨k, rfl⟩ := Int.eq_ofNat_of_zero_le e0
    obtain ⟨pn, rfl⟩ := Int.eq_ofNat_of_zero_le p0
    have b02 := b1.trans b2
    have mx2 := mx.same (wo_but b02)
    have ho2 := b02 _ _ nlo ho
    have mxa := mx2.same (wo_same r H2)
    -- the rest
    refine ⟨_, rfl, m, _, rfl, DGet.k (k := .inr "links") mxa.at_, ?_⟩
    refine ⟨_, rfl, lo, rfl, ⟨_, SqL.of ho2⟩, fun D nD => ?_⟩
    refine lc_it (walk_list (K := K) (a := lo) (xs := os.map V.str)) (fun i H' => Same H2 H' ∧ H' D = some (.lst (((os.take i).filter (· ∉ st.lk)).map V.str)))
      ⟨same_upd nD, upd_same⟩ (fun i H' _ hI => SqL.of (hI.1 _ _ ho2)) ?_ ?_
    · rintro i y H3 H4 hi ⟨s3, hD⟩ ⟨rfl, hy⟩
      rw [List.getElem?_map] at hy
      obtain ⟨z, hz, rfl⟩ := Option.map_eq_some_iff.mp hy
      have mx3 := mxa.same s3
      refine ⟨rfl, _, rfl, _, rfl, m, _, rfl, DGet.k (k := .inr "links") mx3.at_, am.Lk, _, rfl, .inl (SqL.of mx3.lk), rfl, flat_strs _, _, rfl, ?_⟩
      rw [if_pos rfl, inV_strs]
      refine ite2 (fun c => ?_) (fun c => ?_)
      · have c' : z ∉ st.lk := by simpa using c
        refine ⟨_, rfl, _, hD, ?_, same_upd2 s3 nD, ?_⟩
        · rw [List.length_map]
          refine small200 (Nat.le_trans (List.length_filter_le _ _) ?_)
          rw [List.length_take]
          omega
        · rw [upd_same, List.take_add_one, hz, List.filter_append, List.map_append]
          show some (HO.lst _) = some (HO.lst (_ ++ (List.filter _ [z]).map V.str))
          rw [List.filter_cons_of_pos (by simpa using c')]
          rfl
      · have c' : z ∈ st.lk := by simpa using c
        refine ⟨s3, ?_⟩
        rw [hD, List.take_add_one, hz, List.filter_append]
        show some (HO.lst _) = some (HO.lst ((_ ++ List.filter _ [z]).map V.str))
        rw [List.filter_cons_of_neg (by simpa using c'), List.filter_nil, List.append_nil]
    rintro H3 ⟨s3, hD⟩
    rw [List.length_map, List.take_of_length_le (Nat.le_refl _)] at hD
    generalize hos : os.filter (· ∉ st.lk) = os2 at hD
    have mx3 := mxa.same s3
    have o2l : os2.length ≤ 5 := by
      rw [← hos, ← o5]
      exact List.length_filter_le _ _
    refine ⟨am.Lk, D, _, _, rfl, rfl, mx3.lk, hD, ?_, fun lr nlr => ?_⟩
    · rw [List.length_map, List.length_map]
      have := sn.len
      exact le400 (by omega)
    rw [← List.map_append]
    have b03 := b02.trans (But.of s3)
    have R3 := R2.same s3
    have nr1 := R3.ne nlr
    have s4 := same_upd (o := .lst ((st.lk ++ os2).map V.str)) nlr
    have g4 : (upd H3 lr (.lst ((st.lk ++ os2).map V.str))) lr = _ := upd_same
    generalize upd H3 lr (.lst ((st.lk ++ os2).map V.str)) = H4 at s4 g4 ⊢
    refine ⟨Nat.zero_le _, fun lf nlf => ?_⟩
    have R4 := R3.same s4
    have nr2 := R4.ne nlf
    have lrf : lr ≠ lf := ne_of_none g4 nlf
    have s5 := same_upd (o := .lst []) nlf
    have g5 := s5 _ _ g4
    have f5 : (upd H4 lf (.lst [])) lf = _ := upd_same
    generalize upd H4 lf (.lst []) = H5 at s5 g5 f5 ⊢
    have R5 := R4.same s5
    have b05 := b03.trans (But.of (s4.trans s5))
    have nlr0 : H lr = none := but_none b03 nr1 nlr
    have nlf0 : H lf = none := but_none (b03.trans (But.of s4)) nr2 nlf
    -- the hosts of the path
    have tot : 5 ≤ (st.lk ++ os2).length := by
      rw [← o5]
      refine len_le_of_sub ond fun x hx => ?_
      by_cases e : x ∈ st.lk
      · exact List.mem_append_left _ e
      · refine List.mem_append_right _ ?_
        rw [← hos]
        exact List.mem_filter.mpr ⟨hx, decide_eq_true e⟩
    have o2n : ∀ x ∈ os2, x ∈ os ∧ x ∉ st.lk := fun x hx => by
      rw [← hos] at hx
      have z := List.mem_filter.mp hx
      exact ⟨z.1, by simpa using z.2⟩
    have ndr : (st.lk ++ os2).Nodup := by
      refine List.nodup_append.mpr ⟨sn.nd, ?_, fun a ha b hb e => (o2n b hb).2 (e ▸ ha)⟩
      rw [← hos]
      exact ond.filter _
    have nmr : ∀ x ∈ st.lk ++ os2, Nm x := fun x hx => by
      rcases List.mem_append.mp hx with h | h
      · exact sn.lkn x h
      · exact onm x (o2n x h).1
    have nir : st.nm ∉ st.lk ++ os2 := fun z => by
      rcases List.mem_append.mp z with h | h
      · exact sn.nin h
      · exact onin (o2n _ h).1
    have lr13 : (st.lk ++ os2).length ≤ 13 := by
      rw [List.length_append]
      have := sn.len
      omega
    clear hos hD mx3 s3
    generalize st.lk ++ os2 = rs at *
    refine ⟨_, rfl, _, rfl, (by omega), (by omega), ?_⟩
    refine for_it (walk_range (lo := 0) (n := (3 + (k : Int) - 0).toNat)) (fun i σ H' => ∃ (a7 : Option V) (out rest : List Str), σ = [some (.ref r), some (.ref m), some (.ref lo), some (.int (3 + (k : Int))), some (.int (pn : Int)), some (.ref lr), some (.ref lf), a7, none] ∧ But r H H' ∧ Rng H' r ∧ H' lf = some (.lst (out.map V.str)) ∧ H' lr = some (.lst (rest.map V.str)) ∧ (out ++ rest).Perm rs ∧ out.length = i)
      ⟨none, [], rs, rfl, b05, R5, f5, g5, List.Perm.refl _, rfl⟩ (fun _ _ _ _ _ => trivial) ?_ ?_
    · rintro i y σ H6 H7 hi ⟨a7, out, rest, rfl, b6, R6, hf, hrs, pm, ol⟩ ⟨rfl, rfl⟩
      have pl := pm.length_eq
      rw [List.length_append] at pl
      have rl : 0 < rest.length := by omega
      refine ⟨_, rfl, .inl ⟨rfl, _, SqL.of hf⟩, _, rfl, .inl ⟨rfl, _, SqL.of hrs⟩, _, rfl, _, rfl, lr, _, rfl, .inl (SqL.of hrs), ?_⟩
      rw [List.length_map]
      refine ⟨r, _, rfl, R6, by omega, by omega, fun H8 e8 b8 R8 e0 e1 => ?_⟩
      obtain ⟨k8, rfl⟩ := Int.eq_ofNat_of_zero_le e0
      have kl : k8 < rest.length := by omega
      have hf8 := b8 _ _ nr2 hf
      have hr8 := b8 _ _ nr1 hrs
      refine ⟨lr, _, _, k8, .str rest[k8], rfl, rfl, hr8, by omega, by omega, seq_ix (by rw [List.length_map]; exact kl), (by rw [List.getElem?_map, List.getElem?_eq_getElem kl]; rfl), ?_⟩
      rw [map_erase]
      have hf9 : (upd H8 lr (.lst ((rest.eraseIdx k8).map V.str))) lf = some (.lst (out.map V.str)) := by
        rw [upd_ne lrf.symm]
        exact hf8
      refine ⟨lf, _, _, rfl, rfl, hf9, (by rw [List.length_map]; exact small200 (by omega)), ?_⟩
      refine ⟨_, out ++ [rest[k8]], rest.eraseIdx k8, rfl, ((b6.trans b8).upd nlr0).upd nlf0, (R8.upd2 nr1).upd2 nr2, ?_, ?_, ?_, ?_⟩
      · rw [upd_same, List.map_append]
        rfl
      · rw [upd_ne lrf, upd_same]
      · rw [List.append_assoc]
        exact (List.Perm.append_left out (erase_perm (List.getElem?_eq_getElem kl))).trans pm
      · rw [List.length_append, ol]
        rfl
    rintro σ H6 ⟨a7, out, rest, rfl, b6, R6, hf, hrs, pm, ol⟩
    have olk : out.length = 3 + k := by omega
    have ndo : out.Nodup := (List.nodup_append.mp ((pm.nodup_iff).mpr ndr)).1
    have inr : ∀ x ∈ out, x ∈ rs := fun x hx => pm.subset (List.mem_append_left _ hx)
    have mx6 := (mx.same (wo_but b6)).same (wo_same r H6)
    -- its own name among them
    obtain ⟨j, ej, jl⟩ : ∃ j : Nat, (if ((3 + (k : Int)) - 1) < (pn : Int) then ((3 + (k : Int)) - 1) else (pn : Int)) = (j : Int) ∧ j < 3 + k := by
      split
      · exact ⟨2 + k, by omega, by omega⟩
      · exact ⟨pn, rfl, by omega⟩
    refine ⟨_, rfl, m, _, rfl, DGet.k (k := .inr "name") mx6.at_, _, rfl, _, rfl, _, rfl, _, _, rfl, rfl, _, _, rfl, ?_⟩
    dsimp only
    rw [ej]
    refine ⟨lf, _, _, j, rfl, rfl, hf, (by
      unfold ixN
      rw [List.length_map, olk, if_pos (by omega), if_pos (by omega)]
      rfl), ?_⟩
    rw [map_set V.str out j st.nm]
    have s7 : But r H (upd H6 lf (.lst ((out.set j st.nm).map V.str))) := b6.upd nlf0
    have R7 := R6.upd2 (o := .lst ((out.set j st.nm).map V.str)) nr2
    have f7 : (upd H6 lf (.lst ((out.set j st.nm).map V.str))) lf = _ := upd_same
    generalize upd H6 lf (.lst ((out.set j st.nm).map V.str)) = H7 at s7 R7 f7 ⊢
    have ok : ∀ c, c + 2 ≤ 3 + k → PathOk (out.set j st.nm) c st.nm := fun c hc => by
      have l : (out.set j st.nm).length = 3 + k := by rw [List.length_set, olk]
      have nin : st.nm ∉ out := fun z => nir (inr _ z)
      refine ⟨by omega, by omega, nodup_set ndo nin, fun x hx => ?_, ?_, by omega⟩
      · rcases List.mem_or_eq_of_mem_set hx with h | h
        · exact nmr x (inr x h)
        · rw [h]
          exact sn.nm
      · refine List.mem_iff_getElem.mpr ⟨j, by omega, ?_⟩
        rw [List.getElem_set_self]
    have l7 : (out.set j st.nm).length ≤ 5 := by rw [List.length_set]; omega
    generalize out.set j st.nm = xs at f7 ok l7
    -- the tuple
    refine ⟨_, rfl, lf, _, rfl, SqL.of f7, (by rw [List.length_map]; omega), fun p o np s8 z8 => ?_⟩
    generalize upd H7 p o = H8 at s8 z8 ⊢
    refine ⟨_, rfl, _, rfl, _, _, rfl, rfl, r, _, rfl, R7.same s8, (by omega), (by omega), fun H9 e9 b9 R9 e0 e1 => ?_⟩
    obtain ⟨c, rfl⟩ := Int.eq_ofNat_of_zero_le e0
    have z9 := z8.but (R7.same s8) b9
    refine ⟨(by show 2 ≤ sizeLine; decide), fun t o' nt s10 z10 => ?_⟩
    exact q _ t p xs c ((s7.trans (But.of s8)).trans (b9.trans (But.of s10))) (R9.same s10) z10 (z9.same s10) (ok c (by omega))
end
end My

namespace My
open PySem PySem.Spec PyProof.Rows L2 Gy Xl Xs Xt Xo Xp Xu
/-! ### an ask of its own: what is due, what is told -/
/-- what is new since H, and what is frozen -/
def nf (H H' : Hp) : Hp := fun a => match H a with
  | none => H' a
  | some _ => fz H' a
theorem nf_new {H H' : Hp} {a : Addr} {o : HO} (n : H a = none) (e : H' a = some o) : nf H H' a = some o := by
  unfold nf
  rw [n]
  exact e
theorem nf_at {H H' : Hp} {a : Addr} {o : HO} (e : nf H H' a = some o) : (H a = none ∧ H' a = some o) ∨ fz H' a = some o := by
  unfold nf at e
  cases h : H a with
  | none => rw [h] at e; exact .inl ⟨rfl, e⟩
  | some x => rw [h] at e; exact .inr e
theorem fz_nf (H H' : Hp) : Same (fz H') (nf H H') := fun b o e => by
  unfold nf
  cases h : H b with
  | none => exact (of_fz e).1
  | some x => exact e
theorem nf_same (H H' : Hp) : Same (nf H H') H' := fun b o e => by
  rcases nf_at e with ⟨_, e⟩ | e
  · exact e
  · exact (of_fz e).1
theorem _root_.Xt.Tz.nf {H H' : Hp} {t : Addr} {xs : List V} (z : Tz H' t xs) : Tz (My.nf H H') t xs := by
  obtain ⟨o, e, c⟩ := z
  exact ⟨o, fz_nf _ _ _ _ (fz_of e), c⟩
theorem nf_off {H H1 H2 : Hp} {h : Addr} {ad : HA} (o : OffA h ad H1 H2) (f : FzK H1 H2) (n : ∀ x ∈ [h, ad.Ll, ad.Lq, ad.La], H x ≠ none) : Same (nf H H1) (nf H H2) := fun b u e => by
  rcases nf_at e with ⟨nb, e⟩ | e
  · refine nf_new nb (o.st b u e ?_ ?_ ?_ ?_) <;> exact fun z => n b (by rw [z]; simp) nb
  · exact fz_nf _ _ _ _ (fz_keep f _ _ e)
def invD (d : PyData) : PyData := .tuple [.str "invalid", d]
def askR (st : HS) (xs : List Str) (c : Nat) : HS × PyData :=
  if xs.getD 0 "" ≠ st.nm then (st, invD (reld xs c)) else if st.jn.isNone = false then (st, .tuple [.str "busy", .str st.nm]) else
  if xs.getD 1 "" ∉ st.lk then (st, .tuple [.str "unlinked", .str st.nm, .str (xs.getD 1 "")]) else ({ st with jn := some (xs, c), sg := "reserved" }, .tuple [.str "sent", .list [ctlD xs c (xs.getD 1 "", "ask")]])
section
variable {P : Program} {w : World} {K : PySem.W.Frag} {mg : Str → Option Value} {base : Heap} {H H1 H2 : Hp} {C CR CB CD : Addr}
def spDue (K : PySem.W.Frag) : Sp := fun vs H Q _ => ∃ (m pa : Addr) (xs : List Str) (c : Nat) (st : HS) (am : HA), vs = [.ref m, .ref pa, .int (c : Int)] ∧ Mst K H m st am ∧ Tz H pa (xs.map V.str) ∧ 3 ≤ xs.length ∧
  ∀ H' am' v, Am K m am H H' (askR st xs c).1 am' → Dn K (nf H H') v (askR st xs c).2 → Q v H'
theorem ok_due {f : Addr} {fd : FuncData} (F : Fun K "_law_ask_due" "_law_ask_due" s_law_ask_due f fd) (Y : Bn mg) (G_law_started : Fk P w K mg base CX0 1 "_law_started" ["_law_model", "_law_path_here", "_law_cut"] (spStart K)) : FnOk P w K mg base CX0 2 f fd ["_law_model", "_law_path_here", "_law_cut"] (spDue K) := by
  refine F.ok sc_law_ask_due (fun vs H Q E h => ?_) (fun cdv A outer s H vs Q E hr h => ?_)
  · obtain ⟨m, pa, xs, c, st, am, rfl, _⟩ := h
    rfl
  · obtain ⟨m, pa, xs, c, st, am, rfl, x, zp, l3, q⟩ := h
    have hu1 := hu_of hr
    refine ⟨_, (pss_cons (ps_if (pt_cmpR op_ne (pe_ix ix_tup (pv 1) pe_int (fun _ _ => rfl)) (pe_dget hu1 (pv 0) pe_str (fun _ _ => rfl)) (nomark _))
 (pss_one (ps_ret (pe_tupZ (pa_cons pe_str (pa_cons (pe_tupZ (pa_cons (pv 1) (pa_cons (pv 2) pa_nil))) pa_nil)))))
 pss_nil)
 (pss_cons (ps_if (pt_cmpR op_notN (pe_dget hu1 (pv 0) pe_str (fun _ _ => rfl)) pe_non (nomark _))
 (pss_one (ps_ret (pe_tupZ (pa_cons pe_str (pa_cons (pe_dget hu1 (pv 0) pe_str (fun _ _ => rfl)) pa_nil)))))
 pss_nil)
 (pss_cons (ps_if (pt_cmpR op_notIn_seq (pe_ix ix_tup (pv 1) pe_int (fun _ _ => rfl)) (pe_dget hu1 (pv 0) pe_str (fun _ _ => rfl)) rfl)
 (pss_one (ps_ret (pe_tupZ (pa_cons pe_str (pa_cons (pe_dget hu1 (pv 0) pe_str (fun _ _ => rfl)) (pa_cons (pe_ix ix_tup (pv 1) pe_int (fun _ _ => rfl)) pa_nil))))))
 pss_nil)
 (pss_one (ps_ret (pe_tupZ (pa_cons pe_str (pa_cons (pe_callF G_law_started (hr.mono (by decide)) (by rfl) pass0 (pa_cons (pv 0) (pa_cons (pv 1) (pa_cons (pv 2) pa_nil)))) pa_nil)))))))), ?_⟩
    unfold askR at q
    refine ⟨_, rfl, pa, _, 0, _, rfl, rfl, zp.sq, at_nat (i := 0) (by omega), _, rfl, m, _, rfl, DGet.k (k := .inr "name") x.at_, rfl, _, rfl, ?_⟩
    by_cases e : xs.getD 0 "" = st.nm
    · rw [if_neg (fun z => z e)] at q
      rw [decide_eq_true (show V.str (xs.getD 0 "") = V.str st.nm by rw [e])]
      refine iteF ⟨_, rfl, m, _, rfl, DGet.k (k := .inr "relink") x.at_, rfl, _, rfl, ?_⟩
      rw [jv_isM x]
      cases ej : st.jn.isNone with
      | false =>
        rw [ej, if_pos rfl] at q
        refine iteT ⟨_, rfl, m, _, rfl, DGet.k (k := .inr "name") x.at_, (by show 2 ≤ sizeLine; decide), fun t o nt s1 z1 => ?_⟩
        exact q _ am _ ((Am.refl x).same s1) (.tup (Tz.nf z1) (.cons (.str _) (.cons (.str _) .nil)))
      | true =>
        rw [ej, if_neg (by decide)] at q
        refine iteF ⟨_, rfl, pa, _, 1, _, rfl, rfl, zp.sq, at_nat (i := 1) (by omega), _, rfl, m, _, rfl, DGet.k (k := .inr "links") x.at_, am.Lk, _, rfl, .inl (SqL.of x.lk), rfl, flat_strs _, _, rfl, ?_⟩
        rw [if_pos rfl, inV_strs]
        by_cases mm : xs.getD 1 "" ∈ st.lk
        · rw [if_neg (fun z => z mm)] at q
          rw [decide_eq_true mm]
          refine iteF ⟨_, rfl, _, rfl, _, rfl, m, pa, xs, c, st, am, rfl, x, zp, by omega, fun H1 jv L us a1 nL eL du => ?_⟩
          refine ⟨(by show 2 ≤ sizeLine; decide), fun t o nt s2 z2 => ?_⟩
          exact q _ _ _ (a1.same s2) (.tup (Tz.nf z2) (.cons (.str _) (.cons (.lst (nf_new nL (s2 _ _ eL)) ((du.same (fz_keep (FzK.of s2))).same (fz_nf _ _))) .nil)))
        · rw [if_pos mm] at q
          rw [decide_eq_false mm]
          refine iteT ⟨_, rfl, m, _, rfl, DGet.k (k := .inr "name") x.at_, _, rfl, pa, _, 1, _, rfl, rfl, zp.sq, at_nat (i := 1) (by omega), (by show 3 ≤ sizeLine; decide), fun t o nt s1 z1 => ?_⟩
          exact q _ am _ ((Am.refl x).same s1) (.tup (Tz.nf z1) (.cons (.str _) (.cons (.str _) (.cons (.str _) .nil))))
    · rw [if_pos e] at q
      rw [decide_eq_false (show ¬ V.str (xs.getD 0 "") = V.str st.nm from fun z => e (by injection z))]
      refine iteT ⟨_, rfl, _, rfl, (by show 2 ≤ sizeLine; decide), fun t o nt s1 z1 => ?_⟩
      generalize upd H t o = H1 at s1 z1 ⊢
      refine ⟨(by show 2 ≤ sizeLine; decide), fun t2 o2 nt2 s2 z2 => ?_⟩
      exact q _ am _ ((Am.refl x).same (s1.trans s2)) (.tup (Tz.nf z2) (.cons (.str _) (.cons (dn_reld (Tz.nf (z1.same s2)) (Tz.nf ((zp.same s1).same s2))) .nil)))
structure X42 (K : PySem.W.Frag) (CR CB CD : Addr) : Prop where
  xC : XCl K CR
  xB : XCl K CB
  xD : XCl K CD
  mCC : PySem.W.exmOne K (.ref CR) (.ref CR) = some true
  mBC : PySem.W.exmOne K (.ref CB) (.ref CR) = some false
  mBB : PySem.W.exmOne K (.ref CB) (.ref CB) = some true
  mDC : PySem.W.exmOne K (.ref CD) (.ref CR) = some false
  mDB : PySem.W.exmOne K (.ref CD) (.ref CB) = some false
  mDD : PySem.W.exmOne K (.ref CD) (.ref CD) = some true
  fC : PySem.W.findIn K (.ref CR) "value" = some none
  fB : PySem.W.findIn K (.ref CB) "host" = some none
  fDh : PySem.W.findIn K (.ref CD) "host" = some none
  fDo : PySem.W.findIn K (.ref CD) "other" = some none
theorem xf_of {K : PySem.W.Frag} {C : Addr} (x : XCl K C) : XfC K C := ⟨x.ga, x.gg, x.ex, x.hd⟩
theorem noLs_strs : ∀ xs : List Str, noLs (xs.map PyData.str) = true
  | [] => rfl
  | x :: xs => by
    show (true && noLs (xs.map PyData.str)) = true
    rw [noLs_strs xs]
    rfl
theorem getD_head {xs : List Str} {x : Str} (h : xs.head? = some x) : xs.getD 0 "" = x := by
  cases xs with
  | nil => cases h
  | cons y ys => injection h
def spTold (K : PySem.W.Frag) (C : Addr) : Sp := fun vs H Q _ => ∃ (h : Addr) (v1 v2 : V) (d1 d2 : PyData) (st : HS) (ad : HA), vs = [.ref h, v1, v2] ∧ Dn K H v1 d1 ∧ Dn K H v2 d2 ∧ sml (.tuple [d1, d2]) = true ∧ Hst K C H h st ad ∧ st.lk.length ≤ 60 ∧
  (isRel (.tuple [d1, d2]) = false → ∀ H' v, Same H H' → Dn K H' v (invD (.tuple [d1, d2])) → Q v H') ∧
  ∀ xs c, PyData.tuple [d1, d2] = reld xs c → isRel (reld xs c) = true → ∀ H' ad' v, Ac K C h ad H H' (askR st xs c).1 ad' → Dn K H' v (askR st xs c).2 → Q v H'
theorem ok_told {f : Addr} {fd : FuncData} (F : Fun K "_law_ask_told" "_law_ask_told" s_law_ask_told f fd) (Y : Bn mg) (T : Ch K C) (gC : mg "InvalidRelink" = some (.ref CR)) (gB : mg "Busy" = some (.ref CB)) (gD : mg "NotLinked" = some (.ref CD)) (X : X42 K CR CB CD)
    (M_ask : Fm P w K mg base (L2.CX P w) 6 C "ask" ["self", "path", "cut"] (spAsk K C CR CB CD)) : FnOk P w K mg base CX0 7 f fd ["_law_host", "_law_path_here", "_law_cut"] (spTold K C) := by
  obtain ⟨_, _, MM_ask, MB_ask, MF_ask⟩ := M_ask.ex
  refine F.ok sc_law_ask_told (fun vs H Q E h => ?_) (fun cdv A outer s H vs Q E hr h => ?_)
  · obtain ⟨h, v1, v2, d1, d2, st, ad, rfl, _⟩ := h
    rfl
  · obtain ⟨h, v1, v2, d1, d2, st, ad, rfl, dn1, dn2, sm, x, few, q1, q2⟩ := h
    refine ⟨_, pss_cons (ps_set (i := 3) sc_law_ask_told.nd rfl (.inl rfl) (pe_tupZ (pa_cons pe_str pa_nil)))
      (pss_cons (ps_try_manyAs (i := 4) (n := "e") rfl rfl sc_law_ask_told.nd rfl rfl takes0
        (fun W pn xe tk _ => pss_one (ps_set (i := 3) sc_law_ask_told.nd rfl (.inl rfl) (pe_tupZ (pa_cons pe_str (pa_cons (pe_methT (pv 0) T.cl MM_ask MF_ask (hr.mono (by decide)) MB_ask (fun σ => passAt tk σ) (pa_cons (pv 1) (pa_cons (pv 2) pa_nil))) pa_nil)))))
        (.cons ⟨rfl, by decide, .inl gC⟩ (fun a oe cls d pn hz hf => pss_one (ps_set (i := 3) sc_law_ask_told.nd rfl (.inl rfl) (pe_tupZ (pa_cons pe_str (pa_cons (pe_xf (xf_of X.xC) X.fC hz hf (pv 4)) pa_nil)))))
        (.cons ⟨rfl, by decide, .inl gB⟩ (fun a oe cls d pn hz hf => pss_one (ps_set (i := 3) sc_law_ask_told.nd rfl (.inl rfl) (pe_tupZ (pa_cons pe_str (pa_cons (pe_xf (xf_of X.xB) X.fB hz hf (pv 4)) pa_nil)))))
        (.cons ⟨rfl, by decide, .inl gD⟩ (fun a oe cls d pn hz hf => pss_one (ps_set (i := 3) sc_law_ask_told.nd rfl (.inl rfl) (pe_tupZ (pa_cons pe_str (pa_cons (pe_xf (xf_of X.xD) X.fDh hz hf (pv 4)) (pa_cons (pe_xf (xf_of X.xD) X.fDo hz hf (pv 4)) pa_nil)))))) .nil))))
      (pss_one (ps_ret (pv 3)))), ?_⟩
    refine ⟨(by show 1 ≤ sizeLine; decide), fun t0 o0 n0 s0 z0 => ?_⟩
    generalize upd H t0 o0 = H0 at s0 z0 ⊢
    have x0 := x.same s0
    refine ⟨_, rfl, h, ad.dx, _, rfl, x0.at_, (by rfl), _, rfl, _, rfl, h, v1, v2, d1, d2, st, ad, rfl, dn1.same s0, dn2.same s0, sm, x0, few, fun inv H1 dx t s1 zt e1 => ?A, fun xs c e ir hd => ⟨fun jn H1 dx s1 e1 => ?B, fun jn x1 ex1 => ⟨fun nm1 H1 dx s1 e1 => ?C, fun m1 H1 jv L t u off fk hx nL eL zt zu => ?D⟩⟩⟩
    case A =>
      have s01 := s0.trans s1
      refine ⟨true, X.mCC, fun _ a na => ?_, fun z => nomatch z⟩
      refine ⟨_, rfl, rfl, rfl, dx, _, _, rfl, e1, rfl, (by show 2 ≤ sizeLine; decide), fun t2 o2 n2 s2 z2 => ?_⟩
      generalize upd H1 t2 o2 = H2 at s2 z2 ⊢
      have s02 := s01.trans s2
      have dd : Dn K H2 (.ref t2) (invD (.tuple [d1, d2])) := .tup z2 (.cons (.str _) (.cons (.tup (zt.same s2) (.cons (dn1.same s02) (.cons (dn2.same s02) .nil))) .nil))
      refine ⟨_, rfl, ?_⟩
      cases ir : isRel (.tuple [d1, d2]) with
      | false => exact q1 ir _ _ s02 dd
      | true =>
        rcases inv with inv | ⟨xs, c, e, ne⟩
        · rw [ir] at inv
          cases inv
        · rw [e] at ir dd
          obtain ⟨xs', c', ee, l3, _⟩ := rel_parts ir
          obtain ⟨rfl, rfl⟩ := reld_inj ee
          have nn : xs.getD 0 "" ≠ st.nm := fun z => ne (by
            rw [← z]
            cases xs with
            | nil => exact absurd l3 (by decide)
            | cons y ys => rfl)
          have ar : askR st xs c = (st, invD (reld xs c)) := if_pos nn
          refine q2 xs c e ir _ ad _ ?_ ?_
          · rw [ar]
            exact (Ac.refl x).same s02
          · rw [ar]
            exact dd
    case B =>
      have s01 := s0.trans s1
      have h0 : ¬ xs.getD 0 "" ≠ st.nm := fun z => z (getD_head hd)
      have jj : st.jn.isNone = false := by
        cases ej : st.jn with
        | none => exact absurd ej jn
        | some p => rfl
      have ar : askR st xs c = (st, .tuple [.str "busy", .str st.nm]) := by
        unfold askR
        rw [if_neg h0, if_pos jj]
      refine ⟨false, X.mBC, fun z => (nomatch z), fun _ => ⟨true, X.mBB, fun _ a na => ?_, fun z => nomatch z⟩⟩
      refine ⟨_, rfl, rfl, rfl, dx, _, _, rfl, e1, rfl, (by show 2 ≤ sizeLine; decide), fun t2 o2 n2 s2 z2 => ?_⟩
      refine ⟨_, rfl, q2 xs c e ir _ ad _ ?_ ?_⟩
      · rw [ar]
        exact (Ac.refl x).same (s01.trans s2)
      · rw [ar]
        exact .tup z2 (.cons (.str _) (.cons (.str _) .nil))
    case C =>
      have s01 := s0.trans s1
      have h0 : ¬ xs.getD 0 "" ≠ st.nm := fun z => z (getD_head hd)
      have h1 : xs.getD 1 "" = x1 := by rw [List.getD_eq_getElem?_getD, ex1]; rfl
      have ar : askR st xs c = (st, .tuple [.str "unlinked", .str st.nm, .str x1]) := by
        unfold askR
        rw [if_neg h0, if_neg (by rw [jn]; decide), h1, if_pos nm1]
      refine ⟨false, X.mDC, fun z => (nomatch z), fun _ => ⟨false, X.mDB, fun z => (nomatch z), fun _ => ⟨true, X.mDD, fun _ a na => ?_, fun z => nomatch z⟩⟩⟩
      refine ⟨_, rfl, rfl, rfl, dx, _, _, rfl, e1, rfl, _, rfl, rfl, rfl, dx, _, _, rfl, e1, rfl, (by show 3 ≤ sizeLine; decide), fun t2 o2 n2 s2 z2 => ?_⟩
      refine ⟨_, rfl, q2 xs c e ir _ ad _ ?_ ?_⟩
      · rw [ar]
        exact (Ac.refl x).same (s01.trans s2)
      · rw [ar]
        exact .tup z2 (.cons (.str _) (.cons (.str _) (.cons (.str _) .nil)))
    case D =>
      have h0 : ¬ xs.getD 0 "" ≠ st.nm := fun z => z (getD_head hd)
      have h1 : xs.getD 1 "" = x1 := by rw [List.getD_eq_getElem?_getD, ex1]; rfl
      have ar : askR st xs c = ({ st with jn := some (xs, c), sg := "reserved" }, .tuple [.str "sent", .list [ctlD xs c (x1, "ask")]]) := by
        unfold askR
        rw [if_neg h0, if_neg (by rw [jn]; decide), h1, if_neg (fun z => z m1)]
      have a1 : Ac K C h ad H0 H1 { st with jn := some (xs, c), sg := "reserved" } { ad with jv := jv } := ⟨OffA.of off hx, ⟨.inl rfl, .inl rfl, .inl rfl, .inl rfl⟩, fk, hx⟩
      refine ⟨(by show 2 ≤ sizeLine; decide), fun t2 o2 n2 s2 z2 => ?_⟩
      refine ⟨_, rfl, q2 xs c e ir _ { ad with jv := jv } _ ?_ ?_⟩
      · rw [ar]
        exact (a1.same s2).back s0
      · rw [ar]
        unfold reld at e
        injection e with e
        injection e with ed1 e
        injection e with ed2 _
        subst ed1 ed2
        have k1 : Dn K H1 v1 (.tuple (xs.map PyData.str)) := (((dn_fz (dn1.same s0) (show noL (.tuple (xs.map PyData.str)) = true from noLs_strs xs)).same (fz_keep fk)).same (fz_same H1))
        have k2 : Dn K H1 v2 (.int (c : Int)) := (((dn_fz (dn2.same s0) (show noL (.int (c : Int)) = true from rfl)).same (fz_keep fk)).same (fz_same H1))
        exact .tup z2 (.cons (.str _) (.cons (.lst (s2 _ _ eL) (.cons (.tup (zt.same s2) (.cons (.str _) (.cons (.tup (zu.same s2) (.cons (.str _) (.cons (k1.same s2) (.cons (k2.same s2) .nil)))) .nil))) .nil)) .nil))
end
end My

namespace My
open PySem PySem.Spec PyProof.Rows L2 Gy Xl Xs Xt Xo Xp Xu
/-! ### how the host stands -/
structure SOk (n : Nat) (st : HS) : Prop where
  sn : StN st
  an : st.an = []
  ql : st.qu.length ≤ n
  qd : ∀ d ∈ st.qu, Bd 4 1900 d
  lgl : st.lg.length ≤ 2
  lgd : ∀ d ∈ st.lg, Bd 5 1000 d
  sg : st.sg = "free" ∨ st.sg = "reserved" ∨ st.sg = "turned"
  jn : ∀ xs c, st.jn = some (xs, c) → 3 ≤ xs.length ∧ xs.length ≤ 5 ∧ (∀ x ∈ xs, Nm x) ∧ c ≤ 100
  l6 : st.lk.length ≤ 6
  l5 : st.jn = none → st.lk.length ≤ 5
theorem SOk.pos {n : Nat} {st : HS} (h : SOk n st) : ∀ xs c, st.jn = some (xs, c) → 0 < xs.length := fun xs c e => by
  have := (h.jn xs c e).1
  omega
theorem SOk.mono {n n' : Nat} {st : HS} (h : SOk n st) (l : n ≤ n') : SOk n' st := ⟨h.sn, h.an, Nat.le_trans h.ql l, h.qd, h.lgl, h.lgd, h.sg, h.jn, h.l6, h.l5⟩
theorem nms_bd {xs : List Str} (h : ∀ x ∈ xs, Nm x) : ∀ d ∈ xs.map PyData.str, Bd 1 120 d := fun d hd => by
  obtain ⟨x, m, rfl⟩ := List.mem_map.mp hd
  exact a0_nm (h x m)
theorem path_bd {xs : List Str} (h : ∀ x ∈ xs, Nm x) (l : xs.length ≤ 5) : Bd 2 605 (.tuple (xs.map PyData.str)) := Bd.tup (n := 1) (W := 120) (L := 5) (nms_bd h) (by rw [List.length_map]; exact l) (by decide)
theorem ctlI_bd {k : Str} {xs : List Str} {c : Nat} (hk : A0 (.str k)) (h : ∀ x ∈ xs, Nm x) (l : xs.length ≤ 5) (hc : c ≤ 100) : Bd 4 1900 (ctlI k xs c) := (Bd.tup (n := 2) (W := 605) (L := 3) (fun e he => by
  simp only [List.mem_cons, List.not_mem_nil, or_false] at he
  rcases he with rfl | rfl | rfl
  · exact hk.mono (by decide) (by decide)
  · exact path_bd h l
  · exact (a0_nat hc).mono (by decide) (by decide)) (by show 3 ≤ 3; decide) (by decide)).mono (by decide) (by decide)
theorem ctlD_bd {g k : Str} {xs : List Str} {c : Nat} (hg : Nm g) (hk : A0 (.str k)) (h : ∀ x ∈ xs, Nm x) (l : xs.length ≤ 5) (hc : c ≤ 100) : Bd 5 3900 (ctlD xs c (g, k)) := (Bd.tup (n := 4) (W := 1900) (L := 2) (fun e he => by
  simp only [List.mem_cons, List.not_mem_nil, or_false] at he
  rcases he with rfl | rfl
  · exact (a0_nm hg).mono (by decide) (by decide)
  · exact ctlI_bd hk h l hc) (by show 2 ≤ 2; decide) (by decide)).mono (by decide) (by decide)
theorem reld_bd {xs : List Str} {c : Nat} (h : ∀ x ∈ xs, Nm x) (l : xs.length ≤ 5) (hc : c ≤ 100) : Bd 3 1300 (reld xs c) := (Bd.tup (n := 2) (W := 605) (L := 2) (fun e he => by
  simp only [List.mem_cons, List.not_mem_nil, or_false] at he
  rcases he with rfl | rfl
  · exact path_bd h l
  · exact (a0_nat hc).mono (by decide) (by decide)) (by show 2 ≤ 2; decide) (by decide)).mono (by decide) (by decide)
theorem SOk.fits {st : HS} (h : SOk 10 st) : Fits (shownD st) := by
  have em : Bd 10 20000 (.list []) := (Bd.lst (ds := []) (n := 0) (W := 0) (L := 0) (fun _ z => nomatch z) (Nat.le_refl _) (by decide)).mono (by decide) (by decide)
  refine shown_fits fun d hd => ?_
  simp only [List.mem_cons, List.not_mem_nil, or_false] at hd
  rcases hd with rfl | rfl | rfl | rfl | rfl | rfl | rfl
  · exact (a0_nm h.sn.nm).mono (by decide) (by decide)
  · exact (Bd.lst (L := 2) h.lgd h.lgl (by decide)).mono (by decide) (by decide)
  · exact (Bd.lst (L := 6) (nms_bd h.sn.lkn) (by rw [List.length_map]; exact h.l6) (by decide)).mono (by decide) (by decide)
  · rw [h.an]
    exact em
  · cases j : st.jn with
    | none => exact a0_non.mono (by decide) (by decide)
    | some z =>
      obtain ⟨xs, k⟩ := z
      obtain ⟨_, h2, h3, h4⟩ := h.jn xs k j
      exact (reld_bd h3 h2 h4).mono (by decide) (by decide)
  · rcases h.sg with g | g | g <;> rw [g] <;> exact (a0_txt).mono (by decide) (by decide)
  · exact (Bd.lst (L := 10) h.qd h.ql (by decide)).mono (by decide) (by decide)
theorem posn_ne {xs : List Str} {nm : Str} {j i : Nat} (nd : xs.Nodup) (h : posn xs (.str nm) = some j) (hi : i < xs.length) (ne : i ≠ j) : xs.getD i "" ≠ nm := fun e => ne (getD_inj nd hi (posn_lt h) (e.trans (posn_is nd h).symm))
/-- an ask received keeps it so -/
theorem SOk.ask {n : Nat} {st : HS} {s : Str} {xs : List Str} {c j : Nat} (h : SOk n st) (p : PathOk xs c st.nm) (pj : posn xs (.str st.nm) = some j) (j0 : j ≠ 0) (far : ∀ o ∈ xs.take (j - 1), o ∉ st.lk) : SOk (n + 1) (askO st s xs c j).1 := by
  have c100 : c ≤ 100 := by
    have := p.cl
    have := p.l5
    omega
  have jj : ∀ ys k, some (xs, c) = some (ys, k) → 3 ≤ ys.length ∧ ys.length ≤ 5 ∧ (∀ x ∈ ys, Nm x) ∧ k ≤ 100 := fun ys k e => by
    injection e with e
    injection e with e1 e2
    rw [← e1, ← e2]
    exact ⟨p.l3, p.l5, p.nms, c100⟩
  unfold askO
  split
  · refine ⟨⟨h.sn.nm, h.sn.lkn, h.sn.nd, h.sn.nin, h.sn.len⟩, h.an, ?_, fun d hd => ?_, h.lgl, h.lgd, h.sg, h.jn, h.l6, h.l5⟩
    · show (st.qu ++ [ctlI "ask" xs c]).length ≤ n + 1
      rw [List.length_append]
      have := h.ql
      show st.qu.length + 1 ≤ n + 1
      omega
    · rcases List.mem_append.mp hd with hd | hd
      · exact h.qd d hd
      · rw [List.mem_singleton.mp hd]
        exact ctlI_bd a0_txt p.nms p.l5 c100
  · split
    · rename_i cj
      have jn : st.jn = none := by
        cases e : st.jn with
        | none => rfl
        | some z =>
          unfold canJ at cj
          rw [e] at cj
          cases cj
      unfold askS
      split
      · rw [act_ph (show ("reserved" : Str) ≠ "free" by decide)]
        exact ⟨⟨h.sn.nm, h.sn.lkn, h.sn.nd, h.sn.nin, h.sn.len⟩, h.an, Nat.le_succ_of_le h.ql, h.qd, h.lgl, h.lgd, .inr (.inl rfl), jj, h.l6, fun z => nomatch z⟩
      · rename_i jl
        rw [act_ph (show ("turned" : Str) ≠ "free" by decide)]
        have lt := posn_lt pj
        have l3 := p.l3
        have x0 : xs.getD 0 "" ∈ xs.take (j - 1) := by
          refine List.mem_iff_getElem?.mpr ⟨0, ?_⟩
          rw [List.getElem?_take, if_pos (by omega), List.getD_eq_getElem?_getD, List.getElem?_eq_getElem (by omega)]
          rfl
        have x0l := far _ x0
        have x0n : xs.getD 0 "" ≠ st.nm := posn_ne p.nd pj (by omega) (fun z => j0 z.symm)
        have x0m : Nm (xs.getD 0 "") := p.nms _ (getD_mem (by omega))
        have nd1 : (st.lk ++ [xs.getD 0 ""]).Nodup := nodup_snoc h.sn.nd x0l
        have mem : ∀ y ∈ (rmS (cutB xs c j) (addS (some (xs.getD 0 "")) st)).lk, y ∈ st.lk ∨ y = xs.getD 0 "" := fun y hy => by
          have z : y ∈ srt (st.lk ++ [xs.getD 0 ""]) := by
            cases e : cutB xs c j with
            | none => rw [e] at hy; exact hy
            | some o => rw [e] at hy; exact (List.mem_filter.mp hy).1
          rcases List.mem_append.mp (srt_mem.mp z) with z | z
          · exact .inl z
          · exact .inr (List.mem_singleton.mp z)
        have ndf : (rmS (cutB xs c j) (addS (some (xs.getD 0 "")) st)).lk.Nodup := by
          cases e : cutB xs c j with
          | none => exact srt_nd.mpr nd1
          | some o => exact (srt_nd.mpr nd1).filter _
        have lf : (rmS (cutB xs c j) (addS (some (xs.getD 0 "")) st)).lk.length ≤ 6 := by
          have a := rm_len (cutB xs c j) (addS (some (xs.getD 0 "")) st)
          have b := add_len (some (xs.getD 0 "")) st
          have := h.l5 jn
          omega
        have enm : (rmS (cutB xs c j) (addS (some (xs.getD 0 "")) st)).nm = st.nm := by cases cutB xs c j <;> rfl
        have eqq : ((rmS (cutB xs c j) (addS (some (xs.getD 0 "")) st)).an = st.an ∧ (rmS (cutB xs c j) (addS (some (xs.getD 0 "")) st)).qu = st.qu ∧ (rmS (cutB xs c j) (addS (some (xs.getD 0 "")) st)).lg = st.lg) := by cases cutB xs c j <;> exact ⟨rfl, rfl, rfl⟩
        obtain ⟨e1, e2, e3⟩ := eqq
        generalize rmS (cutB xs c j) (addS (some (xs.getD 0 "")) st) = st2 at *
        show SOk (n + 1) { st2 with sg := "turned", jn := some (xs, c) }
        refine ⟨⟨(by show Nm st2.nm; rw [enm]; exact h.sn.nm), fun y hy => ?_, ndf, fun z => ?_, (by show st2.lk.length ≤ 8; omega)⟩, (by show st2.an = []; rw [e1]; exact h.an), (by show st2.qu.length ≤ n + 1; rw [e2]; exact Nat.le_succ_of_le h.ql), (by show ∀ d ∈ st2.qu, _; rw [e2]; exact h.qd), (by show st2.lg.length ≤ 2; rw [e3]; exact h.lgl), (by show ∀ d ∈ st2.lg, _; rw [e3]; exact h.lgd), .inr (.inr rfl), jj, lf, fun z => nomatch z⟩
        · rcases mem y hy with z | z
          · exact h.sn.lkn y z
          · rw [z]
            exact x0m
        · have z : st2.nm ∈ st2.lk := z
          rw [enm] at z
          rcases mem _ z with z | z
          · exact h.sn.nin z
          · exact x0n z.symm
    · exact h.mono (Nat.le_succ n)
theorem SOk.own {n : Nat} {st : HS} {xs : List Str} {c : Nat} (h : SOk n st) (p : PathOk xs c st.nm) : SOk n (askR st xs c).1 := by
  have c100 : c ≤ 100 := by
    have := p.cl
    have := p.l5
    omega
  unfold askR
  split
  · exact h
  split
  · exact h
  split
  · exact h
  · exact ⟨⟨h.sn.nm, h.sn.lkn, h.sn.nd, h.sn.nin, h.sn.len⟩, h.an, h.ql, h.qd, h.lgl, h.lgd, .inr (.inl rfl), fun ys k e => by
      injection e with e
      injection e with e1 e2
      rw [← e1, ← e2]
      exact ⟨p.l3, p.l5, p.nms, c100⟩, h.l6, fun z => nomatch z⟩
/-- what is sent fits -/
theorem sends_bd {st : HS} {s : Str} {xs : List Str} {c j : Nat} (p : PathOk xs c st.nm) (pj : posn xs (.str st.nm) = some j) (j0 : j ≠ 0) (ns : Nm s) : Fits (.list (askO st s xs c j).2) := by
  have c100 : c ≤ 100 := by
    have := p.cl
    have := p.l5
    omega
  have lt := posn_lt pj
  have one : ∀ g k, Nm g → A0 (.str k) → Fits (.list [ctlD xs c (g, k)]) := fun g k hg hk => (Bd.lst (L := 1) (fun d hd => by
    rw [List.mem_singleton.mp hd]
    exact ctlD_bd hg hk p.nms p.l5 c100) (by show 1 ≤ 1; decide) (by decide)).fits (by decide) (by decide)
  unfold askO
  split
  · exact (Bd.lst (ds := []) (n := 0) (W := 0) (L := 0) (fun _ z => nomatch z) (Nat.le_refl _) (by decide)).fits (by decide) (by decide)
  split
  · unfold askS
    split
    · exact one _ _ (p.nms _ (getD_mem (by omega))) a0_txt
    · exact one _ _ (p.nms _ (getD_mem (by omega))) a0_txt
  · exact one _ _ ns a0_txt
theorem due_bd {st : HS} {xs : List Str} {c : Nat} (nn : Nm st.nm) (p : PathOk xs c st.nm) : Fits (askR st xs c).2 := by
  have c100 : c ≤ 100 := by
    have := p.cl
    have := p.l5
    omega
  have l3 := p.l3
  have x1 : Nm (xs.getD 1 "") := p.nms _ (getD_mem (by omega))
  unfold askR
  split
  · exact (Bd.tup (n := 3) (W := 1300) (L := 2) (fun e he => by
      simp only [List.mem_cons, List.not_mem_nil, or_false] at he
      rcases he with rfl | rfl
      · exact (a0_txt).mono (by decide) (by decide)
      · exact reld_bd p.nms p.l5 c100) (by show 2 ≤ 2; decide) (by decide)).fits (by decide) (by decide)
  split
  · exact (Bd.tup (n := 1) (W := 120) (L := 2) (fun e he => by
      simp only [List.mem_cons, List.not_mem_nil, or_false] at he
      rcases he with rfl | rfl
      · exact a0_txt
      · exact a0_nm nn) (by show 2 ≤ 2; decide) (by decide)).fits (by decide) (by decide)
  split
  · exact (Bd.tup (n := 1) (W := 120) (L := 3) (fun e he => by
      simp only [List.mem_cons, List.not_mem_nil, or_false] at he
      rcases he with rfl | rfl | rfl
      · exact a0_txt
      · exact a0_nm nn
      · exact a0_nm x1) (by show 3 ≤ 3; decide) (by decide)).fits (by decide) (by decide)
  · exact (Bd.tup (n := 6) (W := 3901) (L := 2) (fun e he => by
      simp only [List.mem_cons, List.not_mem_nil, or_false] at he
      rcases he with rfl | rfl
      · exact (a0_txt).mono (by decide) (by decide)
      · exact (Bd.lst (L := 1) (fun d hd => by
          rw [List.mem_singleton.mp hd]
          exact ctlD_bd x1 a0_txt p.nms p.l5 c100) (by show 1 ≤ 1; decide) (by decide)).mono (by decide) (by decide)) (by show 2 ≤ 2; decide) (by decide)).fits (by decide) (by decide)
end My

namespace My
open PySem PySem.Spec PyProof.Rows L2 Gy Xl Xs Xt Xo Xp Xu
theorem cut_take (xs : List V) (n : Nat) : cutV xs none (some (n : Int)) = xs.take n := by
  unfold cutV
  rw [HT.sIx_none, HT.sIx_nat, List.drop_zero, Nat.sub_zero]
  by_cases h : n ≤ xs.length
  · rw [Nat.min_eq_left h]
  · rw [Nat.min_eq_right (by omega), List.take_of_length_le (Nat.le_refl _), List.take_of_length_le (by omega)]
theorem cut_drop (xs : List V) (n : Nat) : cutV xs (some (n : Int)) none = xs.drop n := by
  unfold cutV
  rw [HT.sIx_none, HT.sIx_nat]
  by_cases h : n ≤ xs.length
  · rw [Nat.min_eq_left h, List.take_of_length_le (by rw [List.length_drop]; exact Nat.le_refl _)]
  · rw [Nat.min_eq_right (by omega), Nat.sub_self, List.take_zero, List.drop_eq_nil_of_le (by omega)]
theorem rcut_of {H : Hp} {a : Addr} {xs ys : List V} {lo hi : Option Int} {Q : VK} (z : Tz H a xs) (e : cutV xs lo hi = ys) (k : ∀ t H', Same H H' → Tz H' t ys → Q (.ref t) H') : NewT (cutV xs lo hi) H Q ∧ (cutV xs lo hi = xs → Q (.ref a) H) := by
  refine ⟨fun p o n s t => k p _ s ?_, fun w => k a H (Same.refl _) ?_⟩
  · rw [← e]
    exact t
  · rw [← e, w]
    exact z
theorem sum_of {H : Hp} {a b : Addr} {xs ys : List V} {Q : VK} (z1 : Tz H a xs) (z2 : Tz H b ys) (k : ∀ t H', Same H H' → Tz H' t (xs ++ ys) → Q (.ref t) H') : NewT (xs ++ ys) H Q ∧ (xs = [] → Q (.ref b) H) ∧ (ys = [] → Q (.ref a) H) := by
  refine ⟨fun p o n s t => k p _ s t, fun w => k b H (Same.refl _) ?_, fun w => k a H (Same.refl _) ?_⟩
  · rw [w]
    exact z2
  · rw [w, List.append_nil]
    exact z1
/-! ### the host and its model, side by side -/
def Dj (ad am : HA) : Prop := ∀ x ∈ [ad.Lk, ad.Ll, ad.Lq, ad.La], x ∉ [am.Lk, am.Ll, am.Lq, am.La]
theorem rot3 {A B C : Prop} (h : C ∧ A ∧ B) : A ∧ B ∧ C := ⟨h.2.1, h.2.2, h.1⟩
theorem if_use2 {t : TT} {A B rest : TS} {D : Ends} {σ : L2.St} {H : Hp} (S : Bool → Hp → Prop) (h1 : ∀ Q' : Bool → Hp → Prop, (∀ b H', S b H' → Q' b H') → t σ H Q') (hT : ∀ H', S true H' → A { D with nx := rest D } σ H') (hF : ∀ H', S false H' → B { D with nx := rest D } σ H') : tSeq (tIfS t A B) rest D σ H := by
  refine h1 _ fun b H' s => ?_
  cases b with
  | true => exact hT H' s
  | false => exact hF H' s
section
variable {P : Program} {w : World} {K : PySem.W.Frag} {mg : Str → Option Value} {base : Heap} {H H1 H2 : Hp} {C CR CB CD : Addr} {h m : Addr} {st st' : HS} {ad am ad1 am1 : HA}
theorem ne4 {x a b c d : Addr} (h : x ∉ [a, b, c, d]) : x ≠ a ∧ x ≠ b ∧ x ≠ c ∧ x ≠ d := by
  simp only [List.mem_cons, List.not_mem_nil, or_false, not_or] at h
  exact h
theorem Hst.offm (x : Hst K C H h st ad) (y : Mst K H m st' am) (dj : Dj ad am) (o : OffA m am H H1) (f : FzK H H1) : Hst K C H1 h st ad := by
  have k : ∀ {p : Addr} {vs : List V}, H p = some (.lst vs) → p ∈ [ad.Lk, ad.Ll, ad.Lq, ad.La] → H1 p = some (.lst vs) := fun {p vs} e mm => by
    obtain ⟨_, n2, n3, n4⟩ := ne4 (dj p mm)
    exact o.st p _ e (ne_dk e y.at_) n2 n3 n4
  obtain ⟨_, yl, _⟩ := y.lg
  obtain ⟨_, yq, _⟩ := y.qu
  obtain ⟨_, ya, _⟩ := y.an
  obtain ⟨v1, a1, b1⟩ := x.lg
  obtain ⟨v2, a2, b2⟩ := x.qu
  obtain ⟨v3, a3, b3⟩ := x.an
  have fk := fz_keep f
  exact ⟨o.st h _ x.at_ (ne_of x.at_ y.at_ (fun z => nomatch z)) (ne_of x.at_ yl (fun z => nomatch z)) (ne_of x.at_ yq (fun z => nomatch z)) (ne_of x.at_ ya (fun z => nomatch z)), k x.lk (by simp), ⟨v1, k a1 (by simp), b1.same fk⟩, x.jn.same fk, ⟨v2, k a2 (by simp), b2.same fk⟩, ⟨v3, k a3 (by simp), b3.same fk⟩, x.sep⟩
theorem Dj.symm (d : Dj ad am) : Dj am ad := fun x hx hy => d x hy hx
theorem Mst.offh (y : Mst K H m st' am) (x : Hst K C H h st ad) (dj : Dj ad am) (o : OffA h ad H H1) (f : FzK H H1) : Mst K H1 m st' am := by
  have k : ∀ {p : Addr} {vs : List V}, H p = some (.lst vs) → p ∈ [am.Lk, am.Ll, am.Lq, am.La] → H1 p = some (.lst vs) := fun {p vs} e mm => by
    obtain ⟨_, n2, n3, n4⟩ := ne4 (dj.symm p mm)
    exact o.st p _ e (ne_of e x.at_ (fun z => nomatch z)) n2 n3 n4
  obtain ⟨_, xl, _⟩ := x.lg
  obtain ⟨_, xq, _⟩ := x.qu
  obtain ⟨_, xa, _⟩ := x.an
  obtain ⟨v1, a1, b1⟩ := y.lg
  obtain ⟨v2, a2, b2⟩ := y.qu
  obtain ⟨v3, a3, b3⟩ := y.an
  have fk := fz_keep f
  exact ⟨o.st m _ y.at_ (ne_of y.at_ x.at_ (fun z => nomatch z)) (ne_dk xl y.at_).symm (ne_dk xq y.at_).symm (ne_dk xa y.at_).symm, k y.lk (by simp), ⟨v1, k a1 (by simp), b1.same fk⟩, y.jn.same fk, ⟨v2, k a2 (by simp), b2.same fk⟩, ⟨v3, k a3 (by simp), b3.same fk⟩, y.sep⟩
theorem dj_new {a b c : HA} (d : Dj a b) (s : ∀ x ∈ [a.Lk, a.Ll, a.Lq, a.La], H x ≠ none) (n : NewA H b c) : Dj a c := fun x hx hy => by
  have k : ∀ {p q : Addr}, (q = p ∨ H q = none) → p ∈ [b.Lk, b.Ll, b.Lq, b.La] → x ≠ q := fun {p q} z mp e => by
    rcases z with z | z
    · exact d x hx (by rw [e, z]; exact mp)
    · exact s x hx (by rw [e]; exact z)
  simp only [List.mem_cons, List.not_mem_nil, or_false] at hy
  rcases hy with hy | hy | hy | hy
  · exact k n.lk (by simp) hy
  · exact k n.ll (by simp) hy
  · exact k n.lq (by simp) hy
  · exact k n.la (by simp) hy
theorem Hst.some4 (x : Hst K C H h st ad) : ∀ y ∈ [ad.Lk, ad.Ll, ad.Lq, ad.La], H y ≠ none := fun y hy e => by
  obtain ⟨_, a1, _⟩ := x.lg
  obtain ⟨_, a2, _⟩ := x.qu
  obtain ⟨_, a3, _⟩ := x.an
  simp only [List.mem_cons, List.not_mem_nil, or_false] at hy
  rcases hy with rfl | rfl | rfl | rfl
  · rw [x.lk] at e; cases e
  · rw [a1] at e; cases e
  · rw [a2] at e; cases e
  · rw [a3] at e; cases e
theorem Mst.some4 (x : Mst K H m st am) : ∀ y ∈ [am.Lk, am.Ll, am.Lq, am.La], H y ≠ none := fun y hy e => by
  obtain ⟨_, a1, _⟩ := x.lg
  obtain ⟨_, a2, _⟩ := x.qu
  obtain ⟨_, a3, _⟩ := x.an
  simp only [List.mem_cons, List.not_mem_nil, or_false] at hy
  rcases hy with rfl | rfl | rfl | rfl
  · rw [x.lk] at e; cases e
  · rw [a1] at e; cases e
  · rw [a2] at e; cases e
  · rw [a3] at e; cases e
/-- both, in one state -/
structure Both (K : PySem.W.Frag) (C : Addr) (H : Hp) (h m : Addr) (st : HS) (ad am : HA) : Prop where
  hx : Hst K C H h st ad
  mx : Mst K H m st am
  dj : Dj ad am
theorem Both.same (b : Both K C H h m st ad am) (s : Same H H1) : Both K C H1 h m st ad am := ⟨b.hx.same s, b.mx.same s, b.dj⟩
/-- what stands while both change -/
structure BothTo (K : PySem.W.Frag) (C : Addr) (H H' : Hp) (h m : Addr) (ad am : HA) (st' : HS) (ad' am' : HA) : Prop where
  b : Both K C H' h m st' ad' am'
  st : ∀ y o, H y = some o → y ∉ [h, m] → y ∉ [ad.Lk, ad.Ll, ad.Lq, ad.La] → y ∉ [am.Lk, am.Ll, am.Lq, am.La] → H' y = some o
  na : NewA H ad ad'
  nm : NewA H am am'
  dm : ∀ y, H' y = none → H y = none
  fk : FzK H H'
/-- the model first, the host then -/
theorem Both.step (x : Both K C H h m st ad am) (a : Am K m am H H1 st' am1) (hc : ∀ x1 : Hst K C H1 h st ad, ∃ ad1, Ac K C h ad H1 H2 st' ad1) : ∃ ad1, BothTo K C H H2 h m ad am st' ad1 am1 := by
  have x1 := x.hx.offm x.mx x.dj a.off a.fk
  obtain ⟨ad1, c⟩ := hc x1
  have dj1 : Dj ad am1 := dj_new x.dj x.hx.some4 a.nw
  have mx2 := a.hx.offh x1 dj1 c.off c.fk
  have dj2 : Dj ad1 am1 := (dj_new dj1.symm a.hx.some4 c.nw).symm
  refine ⟨ad1, ⟨c.hx, mx2, dj2⟩, fun y o e n1 n2 n3 => ?_, ?_, a.nw, fun y e => a.off.dm y (c.off.dm y e), a.fk.trans c.fk⟩
  · simp only [List.mem_cons, List.not_mem_nil, or_false, not_or] at n1
    obtain ⟨_, p2, p3, p4⟩ := ne4 n2
    obtain ⟨_, q2, q3, q4⟩ := ne4 n3
    exact c.off.st y o (a.off.st y o e n1.2 q2 q3 q4) n1.1 p2 p3 p4
  · have k : ∀ {p q : Addr}, (q = p ∨ H1 q = none) → (q = p ∨ H q = none) := fun z => z.imp id (a.off.dm _)
    exact ⟨k c.nw.lk, k c.nw.ll, k c.nw.lq, k c.nw.la⟩
end
end My

namespace My
open PySem PySem.Spec PyProof.Rows L2 Gy Xl Xs Xt Xo Xp Xu
section
variable {P : Program} {w : World} {K : PySem.W.Frag} {mg : Str → Option Value} {base : Heap} {H H1 H2 : Hp} {C CR CB CD : Addr}
/-! ### an ask received, by both -/
def spRR (K : PySem.W.Frag) (C : Addr) : Sp := fun vs H Q _ => ∃ (r h m pa : Addr) (xs : List Str) (c n : Nat) (st : HS) (ad am : HA), vs = [.ref r, .ref h, .ref m, .ref pa, .int (c : Int)] ∧ Both K C H h m st ad am ∧ Tz H pa (xs.map V.str) ∧ SOk n st ∧ n ≤ 9 ∧ PathOk xs c st.nm ∧ xs.getD 0 "" ≠ st.nm ∧
  ∀ H' st' ad' am', BothTo K C H H' h m ad am st' ad' am' → SOk (n + 1) st' → st'.nm = st.nm → Q (.bl true) H'
theorem ask_nm (st : HS) (s : Str) (xs : List Str) (c j : Nat) : (askO st s xs c j).1.nm = st.nm := by
  unfold askO
  split
  · rfl
  split
  · unfold actS phS
    have a : ∀ (o1 o2 o3 : Option Str), (ocS xs c o1 (rmS o2 (addS o3 st))).nm = st.nm := fun o1 o2 o3 => by cases o1 <;> cases o2 <;> cases o3 <;> rfl
    exact a _ _ _
  · rfl
theorem ok_rr {f : Addr} {fd : FuncData} (F : Fun K "_law_received_right" "_law_received_right" s_law_received_right f fd) (Y : Bn mg) (T : Ch K C) (G_law_awaited : Fk P w K mg base CX0 1 "_law_awaited" ["_law_model"] (spAw K)) (G_law_received : Fk P w K mg base CX0 3 "_law_received" ["_law_model", "_law_source", "_law_item"] (spAskM K askO))
    (M_receive : Fm P w K mg base (L2.CX P w) 12 C "receive" ["self", "source", "item"] (spRecvA K C)) (G_law_agrees : Fg P w K mg base CX0 3 "_law_agrees" ["_law_host", "_law_model"] (spAgr K C)) : FnG P w K mg base CX0 13 f fd ["_law_pot_here", "_law_host", "_law_model", "_law_path_here", "_law_cut"] (spRR K C) := by
  obtain ⟨_, _, MM_receive, MB_receive, MF_receive⟩ := M_receive.ex
  refine fun_g0 F sc_law_received_right (fun {vs H Q E} h => ?_) (fun cdv A outer s H vs Q E gd hr h => ?_)
  · obtain ⟨r, h, m, pa, xs, c, n, st, ad, am, rfl, _⟩ := h
    rfl
  · obtain ⟨r, h, m, pa, xs, c, n, st, ad, am, rfl, b0, zp, ok, n9, pk, h0, q⟩ := h
    have hu70 := Room.units70 hr
    have hu1 := hu_of hr
    refine ⟨_, (pss_cons (ps_set (i := 5) sc_law_received_right.nd rfl (.inl rfl) (pe_tm PySem.F.slot_tuple_index PySem.F.type_tuple_index mt_tup_index (pv 3) (pa_cons (pe_dget hu1 (pv 2) pe_str (fun _ _ => rfl)) pa_nil)))
 (pss_cons (ps_set (i := 6) sc_law_received_right.nd rfl (.inl rfl) (pe_ix ix_tup (pv 3) (pe_op op_sub (pv 5) pe_int) (fun _ _ => rfl)))
 (pss_cons (ps_if (PW.pt (pw_or (pt_cmpR op_notIn_seq (pv 6) (pe_dget hu1 (pv 2) pe_str (fun _ _ => rfl)) rfl) (pw_or1 (pt_val (pe_callB (cr_any rfl) (by rfl) Y.any (by decide +kernel) (pa_cons (pe_lc (own := [("_law_other", 9)]) (g := gName 9) (tt := tYes) rfl sc_law_received_right.nd (pi_tup (pe_slice sl_cutA (pv 3) po_none (po_some (pe_op op_sub (pv 5) pe_int)))) (blkOk_by (N := ["_law_pot_here", "_law_host", "_law_model", "_law_path_here", "_law_cut", "_law_place", "_law_source", "_law_due", "_law_told", "_law_other"]) (sc := defScope s_law_received_right) (by decide +kernel)) (fun _ _ _ _ _ => (pg_name (i := 9) sc_law_received_right.nd rfl (Or.inl rfl))) (fun _ _ _ _ _ => pts_nil) (fun _ _ _ _ _ => (pe_cmpR (show OpR _ (compareOp .In) (rIn K false) from op_in_seq) (pv 9) (pe_dget hu1 (pv 2) pe_str (fun _ _ => rfl)) rfl))) pa_nil))))))
 (pss_one (ps_ret pe_bl))
 pss_nil)
 (pss_cons (ps_if (PW.pt (pw_and (pt_cmpR op_eq (pe_dget hu1 (pv 2) pe_str (fun _ _ => rfl)) pe_str (nomark _)) (pw_and1 (pt_cmpR op_eq (pv 6) (pe_callF G_law_awaited (hr.mono (by decide)) (by rfl) pass0 (pa_cons (pv 2) pa_nil)) (nomark _)))))
 (pss_one (ps_ret pe_bl))
 pss_nil)
 (pss_cons (ps_set (i := 7) sc_law_received_right.nd rfl (.inl rfl) (pe_callF G_law_received (hr.mono (by decide)) (by rfl) pass0 (pa_cons (pv 2) (pa_cons (pv 6) (pa_cons (pe_tupZ (pa_cons pe_str (pa_cons (pv 3) (pa_cons (pv 4) pa_nil)))) pa_nil)))))
 (pss_cons (ps_set (i := 8) sc_law_received_right.nd rfl (.inl rfl) (pe_meth (E := fun _ _ _ => False) (pv 1) T.cl MM_receive MF_receive (hr.mono (by decide)) MB_receive .nil passN (pa_cons (pv 6) (pa_cons (pe_tupZ (pa_cons pe_str (pa_cons (pv 3) (pa_cons (pv 4) pa_nil)))) pa_nil))))
 (pss_one (ps_ret (pe_and (pe_cmpR op_eq (pe_callB (show CallR _ (.builtin "repr") (rReprN K) from repr_dn gd hu70) (by rfl) Y.repr (by decide +kernel) (pa_cons (pv 8) pa_nil)) (pe_callB (show CallR _ (.builtin "repr") (rReprN K) from repr_dn gd hu70) (by rfl) Y.repr (by decide +kernel) (pa_cons (pv 7) pa_nil)) (nomark _)) (pe_one (pe_callFg (E := E0) G_law_agrees gd (hr.mono (by decide)) (by rfl) pass0 (pa_cons (pv 1) (pa_cons (pv 2) pa_nil))))))))))))), ?_⟩
    have l3 := pk.l3
    obtain ⟨j, pj⟩ : ∃ j, posn xs (.str st.nm) = some j := ⟨_, if_pos pk.mem⟩
    have jl := posn_lt pj
    have j0 : j ≠ 0 := fun z => h0 (by rw [← posn_is pk.nd pj, z])
    obtain ⟨pg, pf⟩ := posn_get pk.nd pj
    have mx := b0.mx
    refine ⟨_, rfl, ⟨pa, _, rfl, zp⟩, _, rfl, m, _, rfl, DGet.k (k := .inr "name") mx.at_, pa, xs, _, j, rfl, rfl, zp.sq, pg, pf, ?_⟩
    refine ⟨_, rfl, _, rfl, _, _, rfl, rfl, pa, _, _, _, rfl, rfl, zp.sq, at_pred jl j0, ?_⟩
    dsimp only
    have ns : Nm (xs.getD (j - 1) "") := pk.nms _ (getD_mem (by omega))
    generalize hs : xs.getD (j - 1) "" = src at ns
    have l0 := ok.pos
    refine if_use2 (S := fun b H' => Same H H' ∧ (b = false → ∀ o ∈ xs.take (j - 1), o ∉ st.lk)) (fun Q' hq => ?_) (fun H1 hS => ?_) (fun H1 hS => ?_)
    · refine ⟨_, rfl, _, rfl, m, _, rfl, DGet.k (k := .inr "links") mx.at_, am.Lk, _, rfl, .inl (SqL.of mx.lk), rfl, flat_strs _, _, rfl, ?_⟩
      rw [if_pos rfl, inV_strs]
      refine ite2 (fun c1 => hq true _ ⟨Same.refl _, fun z => nomatch z⟩) (fun c1 => ?_)
      refine ⟨_, rfl, _, rfl, _, _, rfl, rfl, _, rfl, pa, _, rfl, zp, And.symm (rcut_of zp (show cutV (xs.map V.str) none (some ((j : Int) - 1)) = (xs.take (j - 1)).map V.str by
        rw [show (j : Int) - 1 = ((j - 1 : Nat) : Int) by omega, cut_take, List.map_take]) fun t H1 s1 z1 => ?_)⟩
      refine ⟨t, rfl, ⟨_, z1.sq⟩, fun D nD => ?_⟩
      have mx1 := mx.same s1
      refine lc_it (walk_tup (K := K) (a := t) (xs := (xs.take (j - 1)).map V.str)) (fun i H' => Same H1 H' ∧ H' D = some (.lst ((((xs.take (j - 1)).take i).map fun x => decide (x ∈ st.lk)).map V.bl))) ⟨same_upd nD, upd_same⟩ (fun i H' _ h => (z1.same h.1).sq) ?_ ?_
      · rintro i y H3 H4 hi ⟨s3, hL⟩ ⟨rfl, hy⟩
        rw [List.getElem?_map] at hy
        obtain ⟨x, hx, rfl⟩ := Option.map_eq_some_iff.mp hy
        have mx3 := mx1.same s3
        refine ⟨rfl, ?_⟩
        dsimp only [tYes]
        refine iteT ?_
        refine ⟨_, rfl, _, rfl, m, _, rfl, DGet.k (k := .inr "links") mx3.at_, am.Lk, _, rfl, .inl (SqL.of mx3.lk), rfl, flat_strs _, ?_⟩
        show ∃ zs, _ ∧ _
        refine ⟨_, hL, ?_, same_upd2 s3 nD, ?_⟩
        · rw [List.length_map, List.length_map, List.length_take]
          have : i < ((xs.take (j - 1)).map V.str).length := hi
          rw [List.length_map, List.length_take] at this
          have := pk.l5
          exact small200 (by omega)
        · rw [upd_same, List.take_add_one, hx, List.map_append, List.map_append]
          show some (HO.lst (_ ++ [V.bl (inV (.str x) (st.lk.map V.str))])) = _
          rw [inV_strs]
          rfl
      · rintro H3 ⟨s3, hL⟩
        rw [List.length_map, List.take_of_length_le (Nat.le_refl _)] at hL
        refine ⟨D, _, rfl, SqL.of hL, _, rfl, hq _ _ ⟨s1.trans s3, fun z o ho hl => ?_⟩⟩
        have := List.any_eq_false.mp z (decide (o ∈ st.lk)) (List.mem_map.mpr ⟨o, ho, rfl⟩)
        rw [decide_eq_true hl] at this
        exact this rfl
    · exact q _ st ad am ⟨b0.same hS.1, fun y o e _ _ _ => hS.1 _ _ e, NewA.refl, NewA.refl, fun y e => same_no hS.1 e, FzK.of hS.1⟩ (ok.mono (Nat.le_succ n)) rfl
    obtain ⟨s1, far⟩ := hS
    have far := far rfl
    have b1 := b0.same s1
    dsimp only [tNext]
    refine if_use2 (S := fun _ H' => H' = H1) (fun Q' hq => ?_) (fun H2 hS => ?_) (fun H2 hS => ?_)
    · refine ⟨_, rfl, m, _, rfl, DGet.k (k := .inr "phase") b1.mx.at_, rfl, _, rfl, ite2 (fun c1 => ?_) (fun _ => hq _ _ rfl)⟩
      refine ⟨_, rfl, _, rfl, m, st, am, rfl, b1.mx, l0, (by cases awt st <;> rfl), _, rfl, hq _ _ rfl⟩
    · subst hS
      exact q _ st ad am ⟨b1, fun y o e _ _ _ => s1 _ _ e, NewA.refl, NewA.refl, fun y e => same_no s1 e, FzK.of s1⟩ (ok.mono (Nat.le_succ n)) rfl
    subst hS
    dsimp only [tNext]
    have c2 := pk.cl
    have sm := sml_reld (c := c) pk.nms (by have := pk.l5; omega) c2
    have ir := rel_of pk.nms pk.nd l3 c2
    have ql := ok.ql
    have l6 := ok.l6
    have an0 : st.an.length ≤ 1000 := by rw [ok.an]; exact Nat.zero_le _
    -- the model
    refine ⟨_, rfl, _, rfl, _, rfl, _, rfl, (by show 3 ≤ sizeLine; decide), fun ia o2 n2 s3 z3 => ?_⟩
    generalize upd H2 ia o2 = H3 at s3 z3 ⊢
    have zp3 := (zp.same s1).same s3
    have b3 := b1.same s3
    refine ⟨m, ia, pa, src, xs, c, j, st, am, rfl, b3.mx, ⟨z3, zp3, ir, sm, pj, ok.sn.nm, j0⟩, by omega, by omega, l0, fun H4 am4 L us a4 nL eL du => ?_⟩
    -- the host
    have x4 := b3.hx.offm b3.mx b3.dj a4.off a4.fk
    have zp4 := zp3.fzk a4.fk
    refine ⟨_, rfl, h, ad.dx, _, rfl, x4.at_, (by rfl), _, rfl, _, rfl, _, rfl, (by show 3 ≤ sizeLine; decide), fun ib o5 n5 s5 z5 => ?_⟩
    generalize upd H4 ib o5 = H5 at s5 z5 ⊢
    refine ⟨h, ib, pa, src, xs, c, j, st, ad, rfl, ns, x4.same s5, ⟨z5, zp4.same s5, ir, sm, pj, ok.sn.nm, j0⟩, by omega, an0, by omega, l0, fun H6 ad6 L2 us2 c6 nL2 eL2 du2 => ?_⟩
    have c46 := c6.back s5
    obtain ⟨ad7, bt⟩ := b3.step a4 (fun _ => ⟨ad6, c46⟩)
    have ok' := ok.ask (s := src) pk pj j0 far
    have ft := sends_bd (st := st) (s := src) (c := c) pk pj j0 ns
    have nm' := ask_nm st src xs c j
    generalize hO : askO st src xs c j = O at *
    obtain ⟨st', ds⟩ := O
    dsimp only at *
    have eL6 := c46.keep eL (b3.hx.nes nL)
    have dL : Dn K H6 (.ref L) (.list ds) := .lst eL6 ((du.same (fz_keep c46.fk)).same (fz_same H6))
    have dL2 : Dn K H6 (.ref L2) (.list ds) := .lst eL2 (du2.same (fz_same H6))
    refine ⟨_, rfl, _, _, rfl, dL2, ft.1, ft.2.1, ft.2.2, _, rfl, _, _, rfl, dL, ft.1, ft.2.1, ft.2.2, rfl, _, rfl, ?_⟩
    rw [decide_eq_true rfl]
    refine iteT ⟨_, rfl, _, rfl, h, m, st', ad7, am4, rfl, bt.b.hx, bt.b.mx, ok'.pos, (ok'.mono (by omega)).fits, fun H7 s7 => ?_⟩
    have s13 := s1.trans s3
    refine q H7 st' ad7 am4 ⟨bt.b.same s7, fun y o e n1 n2 n3 => s7 _ _ (bt.st y o (s13 _ _ e) n1 n2 n3), ?_, ?_, fun y e => same_no s13 (bt.dm y (same_no s7 e)), ((FzK.of s13).trans bt.fk).trans (FzK.of s7)⟩ ok' nm'
    · exact NewA.trans (h := h) (OffA.same s13) NewA.refl bt.na
    · exact NewA.trans (h := h) (OffA.same s13) NewA.refl bt.nm
end
end My

namespace My
open PySem PySem.Spec PyProof.Rows L2 Gy Xl Xs Xt Xo Xp Xu
/-! ### what is no relink -/
def oddP (xs : List Str) : List PyData := [.tuple ((xs.take 2).map PyData.str), .list (xs.map PyData.str), .tuple ((xs ++ xs.take 1).map PyData.str), .tuple ((xs ++ [("A" : Str)]).map PyData.str), .tuple [], .none, .int 0]
def cutP (n : Nat) : List PyData := [.int (-1), .int ((n : Int) - 1), .bool true, .none, .str "0", .int (10 ^ 20)]
theorem no_path {xs : List Str} (h : xs.length < 3) : isPath (.tuple (xs.map PyData.str)) = false := by
  rw [isPath_t, List.length_map, decide_eq_false (by omega)]
  rfl
theorem odd_no {xs : List Str} (l3 : 3 ≤ xs.length) : ∀ d ∈ oddP xs, isPath d = false := fun d hd => by
  simp only [oddP, List.mem_cons, List.not_mem_nil, or_false] at hd
  rcases hd with rfl | rfl | rfl | rfl | rfl | rfl | rfl
  · exact no_path (by rw [List.length_take]; omega)
  · rfl
  · rw [isPath_t, txts_map]
    have nn : ¬ (xs ++ xs.take 1).Nodup := fun z => by
      cases xs with
      | nil => exact absurd l3 (by decide)
      | cons y ys => exact (List.nodup_append.mp z).2.2 y List.mem_cons_self y (by simp) rfl
    rw [decide_eq_false nn, Bool.and_false, Bool.and_false]
  · rw [isPath_t, List.map_append, List.all_append]
    have e : (([("A" : Str)].map PyData.str).all isHost) = false := by decide +kernel
    rw [e, Bool.and_false, Bool.false_and, Bool.and_false]
  · rfl
  · rfl
  · rfl
theorem cut_no {n : Nat} (h : n ≤ 100) : ∀ d ∈ cutP n, isIdx ((n : Int) - 1) d = false := fun d hd => by
  simp only [cutP, List.mem_cons, List.not_mem_nil, or_false] at hd
  rcases hd with rfl | rfl | rfl | rfl | rfl | rfl
  · rfl
  · rw [isIdx_i, decide_eq_false (show ¬ ((n : Int) - 1 < (n : Int) - 1) by omega), Bool.and_false]
  · rfl
  · rfl
  · rfl
  · rw [isIdx_i, decide_eq_false (show ¬ ((10 : Int) ^ 20 < (n : Int) - 1) by omega), Bool.and_false]
theorem strs_bd {xs : List Str} (h : ∀ x ∈ xs, A0 (.str x)) (l : xs.length ≤ 10) : Bd 2 1210 (.tuple (xs.map PyData.str)) := Bd.tup (n := 1) (W := 120) (L := 10) (fun d hd => by
  obtain ⟨x, m, rfl⟩ := List.mem_map.mp hd
  exact h x m) (by rw [List.length_map]; exact l) (by decide)
theorem odd_bd {xs : List Str} (nm : ∀ x ∈ xs, Nm x) (l5 : xs.length ≤ 5) : ∀ d ∈ oddP xs, Bd 3 1400 d := fun d hd => by
  simp only [oddP, List.mem_cons, List.not_mem_nil, or_false] at hd
  rcases hd with rfl | rfl | rfl | rfl | rfl | rfl | rfl
  · exact (strs_bd (fun x hx => a0_nm (nm x (List.mem_of_mem_take hx))) (by rw [List.length_take]; omega)).mono (by decide) (by decide)
  · exact (Bd.lst (n := 1) (W := 120) (L := 5) (nms_bd nm) (by rw [List.length_map]; exact l5) (by decide)).mono (by decide) (by decide)
  · exact (strs_bd (fun x hx => by
      rcases List.mem_append.mp hx with h | h
      · exact a0_nm (nm x h)
      · exact a0_nm (nm x (List.mem_of_mem_take h))) (by rw [List.length_append, List.length_take]; omega)).mono (by decide) (by decide)
  · exact (strs_bd (fun x hx => by
      rcases List.mem_append.mp hx with h | h
      · exact a0_nm (nm x h)
      · rw [List.mem_singleton.mp h]
        exact a0_txt (x := "A")) (by rw [List.length_append]; show xs.length + 1 ≤ 10; omega)).mono (by decide) (by decide)
  · exact (strs_bd (xs := []) (fun x hx => nomatch hx) (by decide)).mono (by decide) (by decide)
  · exact a0_non.mono (by decide) (by decide)
  · exact (a0_nat (n := 0) (by decide)).mono (by decide) (by decide)
theorem cut_bd {n : Nat} (h : n ≤ 100) (h1 : 1 ≤ n) : ∀ d ∈ cutP n, Bd 3 1400 d := fun d hd => by
  simp only [cutP, List.mem_cons, List.not_mem_nil, or_false] at hd
  rcases hd with rfl | rfl | rfl | rfl | rfl | rfl
  · exact (okB.bd (n := 2) (W := 200) (by decide +kernel)).mono (by decide) (by decide)
  · rw [show (n : Int) - 1 = ((n - 1 : Nat) : Int) by omega]
    exact (a0_nat (by omega)).mono (by decide) (by decide)
  · exact a0_bl.mono (by decide) (by decide)
  · exact a0_non.mono (by decide) (by decide)
  · exact (a0_txt).mono (by decide) (by decide)
  · exact (okB.bd (n := 2) (W := 200) (by decide +kernel)).mono (by decide) (by decide)
theorem pairs_bd {da db : PyData} (a : Bd 3 1400 da) (b : Bd 3 1400 db) : Bd 4 2900 (.tuple [da, db]) := (Bd.tup (n := 3) (W := 1400) (L := 2) (fun e he => by
  simp only [List.mem_cons, List.not_mem_nil, or_false] at he
  rcases he with rfl | rfl
  · exact a
  · exact b) (by show 2 ≤ 2; decide) (by decide)).mono (by decide) (by decide)
theorem inv_fits {d : PyData} (a : Bd 4 2900 d) : Fits (invD d) := (Bd.tup (n := 4) (W := 2900) (L := 2) (fun e he => by
  simp only [List.mem_cons, List.not_mem_nil, or_false] at he
  rcases he with rfl | rfl
  · exact (a0_txt).mono (by decide) (by decide)
  · exact a) (by show 2 ≤ 2; decide) (by decide)).fits (by decide) (by decide)
section
variable {P : Program} {w : World} {K : PySem.W.Frag} {mg : Str → Option Value} {base : Heap} {H H1 H2 : Hp} {C CR CB CD : Addr}
def PairOk (K : PySem.W.Frag) (H : Hp) (y : V) : Prop := ∃ (t : Addr) (va vb : V) (da db : PyData), y = .ref t ∧ Tz H t [va, vb] ∧ Dn K H va da ∧ Dn K H vb db ∧ Bd 4 2900 (.tuple [da, db]) ∧ isRel (.tuple [da, db]) = false
theorem three_at {P : V → Prop} {a b c y : V} {i : Nat} (e : [a, b, c][i]? = some y) (pa : P a) (pb : P b) (pc : P c) : P y := by
  match i, e with
  | 0, e => injection e with e; subst e; exact pa
  | 1, e => injection e with e; subst e; exact pb
  | 2, e => injection e with e; subst e; exact pc
  | i + 3, e => simp at e
def spOR (K : PySem.W.Frag) (C : Addr) : Sp := fun vs H Q _ => ∃ (r h m pa : Addr) (xs : List Str) (c : Nat) (st : HS) (ad am : HA), vs = [.ref r, .ref h, .ref m, .ref pa] ∧ Rng H r ∧ Both K C (wo r H) h m st ad am ∧ Tz H pa (xs.map V.str) ∧ SOk 10 st ∧ PathOk xs c st.nm ∧ ∀ H', But r H H' → Rng H' r → Q (.bl true) H'
theorem ok_or {f : Addr} {fd : FuncData} (F : Fun K "_law_odd_right" "_law_odd_right" s_law_odd_right f fd) (Y : Bn mg) (T : Ch K C) (G_law_choose : Fk P w K mg base CX0 2 "_law_choose" ["_law_pot_here", "_law_values"] spCh) (G_law_ask_told : Fk P w K mg base CX0 7 "_law_ask_told" ["_law_host", "_law_path_here", "_law_cut"] (spTold K C)) (G_law_agrees : Fg P w K mg base CX0 3 "_law_agrees" ["_law_host", "_law_model"] (spAgr K C)) :
    FnG P w K mg base CX0 8 f fd ["_law_pot_here", "_law_host", "_law_model", "_law_path_here"] (spOR K C) := by
  refine fun_g0 F sc_law_odd_right (fun {vs H Q E} h => ?_) (fun cdv A outer s H vs Q E gd hr h => ?_)
  · obtain ⟨r, h, m, pa, xs, c, st, ad, am, rfl, _⟩ := h
    rfl
  · obtain ⟨r, h, m, pa, xs, c, st, ad, am, rfl, R, b, zp, ok, pk, q⟩ := h
    have hu70 := Room.units70 hr
    refine ⟨_, (pss_cons (ps_set (i := 4) sc_law_odd_right.nd rfl (.inl rfl) (pe_callF G_law_choose (hr.mono (by decide)) (by rfl) pass0 (pa_cons (pv 0) (pa_cons (pe_lst (pa_cons (pe_slice sl_cutA (pv 3) po_none (po_some pe_int)) (pa_cons (pe_callTy call_list_of (by rfl) Y.list (by decide +kernel) (pa_cons (pv 3) pa_nil)) (pa_cons (pe_op op_sum (pv 3) (pe_slice sl_cutA (pv 3) po_none (po_some pe_int))) (pa_cons (pe_op op_sum (pv 3) (pe_tupZ (pa_cons pe_str pa_nil))) (pa_cons (pe_tupZ pa_nil) (pa_cons pe_non (pa_cons pe_int pa_nil)))))))) pa_nil))))
 (pss_cons (ps_set (i := 5) sc_law_odd_right.nd rfl (.inl rfl) (pe_callF G_law_choose (hr.mono (by decide)) (by rfl) pass0 (pa_cons (pv 0) (pa_cons (pe_lst (pa_cons (pe_un un_neg pe_int) (pa_cons (pe_op op_sub (pe_callB call_len_seq (by rfl) Y.len PySem.boot_len (pa_cons (pv 3) pa_nil)) pe_int) (pa_cons pe_bl (pa_cons pe_non (pa_cons pe_str (pa_cons (pe_op op_pow pe_int pe_int) pa_nil))))))) pa_nil))))
 (pss_cons (ps_for PassesOwn.never rfl (pi_list (pe_lst (pa_cons (pe_tupZ (pa_cons (pv 4) (pa_cons pe_int pa_nil))) (pa_cons (pe_tupZ (pa_cons (pv 3) (pa_cons (pv 5) pa_nil))) (pa_cons (pe_tupZ (pa_cons (pv 4) (pa_cons (pv 5) pa_nil))) pa_nil))))) (pg_name (i := 6) sc_law_odd_right.nd rfl (Or.inl rfl))
 (pss_cons (ps_if (pt_cmpR op_ne (pe_callB (show CallR _ (.builtin "repr") (rReprN K) from repr_dn gd hu70) (by rfl) Y.repr (by decide +kernel) (pa_cons (pe_callF G_law_ask_told (hr.mono (by decide)) (by rfl) pass0 (pa_cons (pv 1) (pa_cons (pe_ix ix_tup (pv 6) pe_int (fun _ _ => rfl)) (pa_cons (pe_ix ix_tup (pv 6) pe_int (fun _ _ => rfl)) pa_nil)))) pa_nil)) (pe_callB (show CallR _ (.builtin "repr") (rReprN K) from repr_dn gd hu70) (by rfl) Y.repr (by decide +kernel) (pa_cons (pe_tupZ (pa_cons pe_str (pa_cons (pv 6) pa_nil))) pa_nil)) (nomark _))
 (pss_one (ps_ret pe_bl))
 pss_nil)
 (pss_one (ps_if (pt_not (pt_val (pe_callFg (E := E0) G_law_agrees gd (hr.mono (by decide)) (by rfl) pass0 (pa_cons (pv 1) (pa_cons (pv 2) pa_nil)))))
 (pss_one (ps_ret pe_bl))
 pss_nil))))
 (pss_one (ps_ret pe_bl))))), ?_⟩
    have l3 := pk.l3
    have l5 := pk.l5
    have b0 : But r H H := But.refl r H
    have D0 : Db K r H (.ref pa) (.tuple (xs.map PyData.str)) := Db.tup R zp (dbs_strs xs)
    have D : Dbs K r H [] [] := .nil
    refine ⟨_, rfl, _, rfl, 2, rfl, pa, _, rfl, zp, And.symm (rcut_of zp (show cutV (xs.map V.str) none (some (2 : Int)) = (xs.take 2).map V.str by rw [List.map_take]; exact cut_take _ 2) fun t1 H1 s1 z1 => ?_)⟩
    have R := R.same s1
    have D := (D.same s1).app (.cons (.tup R z1 (dbs_strs _)) .nil)
    have b0 := b0.trans (But.of s1)
    have zp := zp.same s1
    refine ⟨_, rfl, pa, _, rfl, .inr zp.sq, fun l2 n2 => ?_⟩
    have ne2 := R.ne n2
    generalize hg : upd H1 l2 _ = H2
    obtain ⟨s2, g2⟩ := upd_new hg n2
    clear hg
    have R := R.same s2
    have D := (D.same s2).app (.cons (.lst ne2 g2 (dbs_strs _)) .nil)
    have b0 := b0.trans (But.of s2)
    have zp := zp.same s2
    refine ⟨_, rfl, _, rfl, 1, rfl, pa, _, rfl, zp, And.symm (rcut_of zp (show cutV (xs.map V.str) none (some (1 : Int)) = (xs.take 1).map V.str by rw [List.map_take]; exact cut_take _ 1) fun t3 H3 s3 z3 => ?_)⟩
    have R := R.same s3
    have D := D.same s3
    have b0 := b0.trans (But.of s3)
    have zp := zp.same s3
    refine ⟨pa, t3, _, _, rfl, rfl, zp, z3, (by rw [List.length_map, List.length_map, List.length_take]; exact le400 (by omega)), rot3 (sum_of zp z3 fun t4 H4 s4 z4 => ?_)⟩
    rw [← List.map_append] at z4
    have R := R.same s4
    have D := (D.same s4).app (.cons (.tup R z4 (dbs_strs _)) .nil)
    have b0 := b0.trans (But.of s4)
    have zp := zp.same s4
    refine ⟨_, rfl, (by show 1 ≤ sizeLine; decide), fun t5 o5 n5 s5 z5 => ?_⟩
    generalize upd H4 t5 o5 = H5 at s5 z5 ⊢
    have R := R.same s5
    have D := D.same s5
    have b0 := b0.trans (But.of s5)
    have zp := zp.same s5
    refine ⟨pa, t5, _, _, rfl, rfl, zp, z5, (by rw [List.length_map]; exact le400 (by show xs.length + 1 ≤ 10000; omega)), rot3 (sum_of zp z5 fun t6 H6 s6 z6 => ?_)⟩
    have z6 : Tz H6 t6 ((xs ++ [("A" : Str)]).map V.str) := by rw [List.map_append]; exact z6
    have R := R.same s6
    have D := (D.same s6).app (.cons (.tup R z6 (dbs_strs _)) .nil)
    have b0 := b0.trans (But.of s6)
    have zp := zp.same s6
    refine ⟨(by show 0 ≤ sizeLine; decide), fun t7 o7 n7 s7 z7 => ?_⟩
    generalize upd H6 t7 o7 = H7 at s7 z7 ⊢
    have R := R.same s7
    have D := (D.same s7).app (.cons (.tup R z7 .nil) .nil)
    have b0 := b0.trans (But.of s7)
    have zp := zp.same s7
    have D := D.app (.cons .non .nil)
    have D := D.app (.cons (.int 0) .nil)
    refine ⟨(by show 7 ≤ sizeLine; decide), fun l8 n8 => ?_⟩
    have ne8 := R.ne n8
    generalize hg : upd H7 l8 _ = H8
    obtain ⟨s8, g8⟩ := upd_new hg n8
    clear hg
    have R := R.same s8
    have D := D.same s8
    have b0 := b0.trans (But.of s8)
    simp only [List.cons_append, List.nil_append] at D
    refine ⟨r, l8, _, rfl, R, ne8, g8, (by show 0 < 7; decide), (by show 7 ≤ 1000; decide), fun H9 vo b9 R9 mu => ?_⟩
    obtain ⟨d1, o1, q1⟩ : ∃ d, d ∈ oddP xs ∧ Db K r H9 vo d := (D.but b9).mem mu
    have b09 := b0.trans b9
    have D9 := D0.but b09
    have zp9 : Tz H9 pa (xs.map V.str) := (zp.same s8).but R b9
    clear D b0 mu g8 ne8 n8 R s8 b9
    -- the cut
    have b0 : But r H9 H9 := But.refl r H9
    have D : Dbs K r H9 [] [] := .nil
    refine ⟨_, rfl, 1, rfl, ?_⟩
    have D := D.app (.cons (.int (-1)) .nil)
    refine ⟨_, rfl, pa, _, rfl, .inr zp9.sq, _, _, rfl, rfl, ?_⟩
    rw [List.length_map]
    have D := D.app (.cons (.int ((xs.length : Int) - 1)) .nil)
    have D := D.app (.cons (.bl true) .nil)
    have D := D.app (.cons .non .nil)
    have D := D.app (.cons (.str "0") .nil)
    refine ⟨10, 20, rfl, rfl, ⟨by decide, by decide, by decide⟩, ?_⟩
    have D := D.app (.cons (.int (10 ^ 20)) .nil)
    refine ⟨(by show 6 ≤ sizeLine; decide), fun l10 n10 => ?_⟩
    have ne10 := R9.ne n10
    generalize hg : upd H9 l10 _ = H10
    obtain ⟨s10, g10⟩ := upd_new hg n10
    clear hg
    have R10 := R9.same s10
    have D := D.same s10
    simp only [List.cons_append, List.nil_append] at D
    refine ⟨r, l10, _, rfl, R10, ne10, g10, (by show 0 < 6; decide), (by show 6 ≤ 1000; decide), fun H11 vc b11 R11 mu => ?_⟩
    obtain ⟨d2, o2, q2⟩ : ∃ d, d ∈ cutP xs.length ∧ Db K r H11 vc d := (D.but b11).mem mu
    have b911 : But r H9 H11 := (But.of s10).trans b11
    have q1 := q1.but b911
    have D11 := D9.but b911
    have b11 := b09.trans b911
    have bb : Both K C H11 h m st ad am := (b.same (wo_but b11)).same (wo_same r H11)
    clear D D0 D9 mu g10 ne10 n10 s10 b911 b09 R9 R10
    have q1 := q1.dn
    have q2 := q2.dn
    have qp := D11.dn
    have nb1 := odd_no l3 _ o1
    have nb2 := cut_no (n := xs.length) (by omega) _ o2
    have bd1 := odd_bd pk.nms l5 _ o1
    have bd2 := cut_bd (n := xs.length) (by omega) (by omega) _ o2
    have bdp : Bd 3 1400 (.tuple (xs.map PyData.str)) := (path_bd pk.nms l5).mono (by decide) (by decide)
    have np2 : isRel (.tuple [.tuple (xs.map PyData.str), d2]) = false := by
      rw [isRel_2]
      show (_ && isIdx (((xs.map PyData.str).length : Int) - 1) d2) = false
      rw [List.length_map, nb2, Bool.and_false]
    -- the three pairs
    refine ⟨_, rfl, (by show 2 ≤ sizeLine; decide), fun p1 i1 m1 s12 z12 => ?_⟩
    generalize upd H11 p1 i1 = H12 at s12 z12 ⊢
    refine ⟨_, rfl, _, rfl, (by show 2 ≤ sizeLine; decide), fun p2 i2 m2 s13 z13 => ?_⟩
    generalize upd H12 p2 i2 = H13 at s13 z13 ⊢
    refine ⟨_, rfl, _, rfl, (by show 2 ≤ sizeLine; decide), fun p3 i3 m3 s14 z14 => ?_⟩
    generalize upd H13 p3 i3 = H14 at s14 z14 ⊢
    refine ⟨(by show 3 ≤ sizeLine; decide), fun L nL => ?_⟩
    generalize hg : upd H14 L _ = H15
    obtain ⟨s15, g15⟩ := upd_new hg nL
    clear hg
    have s1115 := s12.trans (s13.trans (s14.trans s15))
    have b15 := bb.same s1115
    have k1 : PairOk K H15 (.ref p1) := ⟨p1, _, _, _, _, rfl, z12.same (s13.trans (s14.trans s15)), q1.same s1115, .int 0, pairs_bd bd1 ((a0_nat (n := 0) (by decide)).mono (by decide) (by decide)), rel_no1 nb1⟩
    have k2 : PairOk K H15 (.ref p2) := ⟨p2, _, _, _, _, rfl, z13.same (s14.trans s15), qp.same s1115, q2.same s1115, pairs_bd bdp bd2, np2⟩
    have k3 : PairOk K H15 (.ref p3) := ⟨p3, _, _, _, _, rfl, z14.same s15, q1.same s1115, q2.same s1115, pairs_bd bd1 bd2, rel_no1 nb1⟩
    refine ⟨L, rfl, ⟨_, SqL.of g15⟩, ?_⟩
    refine for_it (walk_list (K := K) (a := L) (xs := [.ref p1, .ref p2, .ref p3])) (fun i σ H' => ∃ a6 : Option V, σ = [some (.ref r), some (.ref h), some (.ref m), some (.ref pa), some vo, some vc, a6] ∧ Same H15 H')
      ⟨none, rfl, Same.refl _⟩ (fun i σ H' _ hP => by obtain ⟨_, _, s⟩ := hP; exact SqL.of (s _ _ g15)) ?_ ?_
    · rintro i y σ H1 H2 hi ⟨a6, rfl, s2⟩ ⟨rfl, ey⟩
      obtain ⟨t, va, vb, da, db, rfl, zt, qa, qb, bd, no⟩ : PairOk K H15 y := three_at (P := PairOk K H15) ey k1 k2 k3
      have b2 := b15.same s2
      have zt2 := zt.same s2
      refine ⟨_, rfl, _, rfl, t, _, 0, va, rfl, rfl, zt2.sq, (show atI [va, vb] ((0 : Nat) : Int) = some va from atI_nat rfl), _, rfl, t, _, 1, vb, rfl, rfl, zt2.sq, (show atI [va, vb] ((1 : Nat) : Int) = some vb from atI_nat rfl), ?_⟩
      refine ⟨h, va, vb, da, db, st, ad, rfl, qa.same s2, qb.same s2, bd.sm, b2.hx, (by have := ok.l6; omega), fun _ H3 v s3 dv => ?_, fun xs' c' e ir => ?_⟩
      rotate_left
      · rw [e] at no
        exact absurd (no.symm.trans ir) (by decide)
      have ft := inv_fits bd
      refine ⟨_, _, rfl, dv, ft.1, ft.2.1, ft.2.2, ?_⟩
      have s23 := s2.trans s3
      refine ⟨_, rfl, (by show 2 ≤ sizeLine; decide), fun t4 o4 n4 s4 z4 => ?_⟩
      have s24 := s23.trans s4
      refine ⟨_, _, rfl, .tup z4 (.cons (.str _) (.cons (.tup (zt.same s24) (.cons (qa.same s24) (.cons (qb.same s24) .nil))) .nil)), ft.1, ft.2.1, ft.2.2, rfl, _, rfl, ite2 (fun cc => absurd cc ?_) (fun _ => ?_)⟩
      · show ¬ (!decide (V.str (invD (.tuple [da, db])).shown = V.str (invD (.tuple [da, db])).shown)) = true
        rw [decide_eq_true rfl]
        decide
      have b4 := b15.same s24
      refine ⟨_, rfl, _, rfl, h, m, st, ad, am, rfl, b4.hx, b4.mx, ok.pos, ok.fits, fun H5 s5 => ⟨_, rfl, iteF ?_⟩⟩
      exact ⟨_, rfl, s24.trans s5⟩
    · rintro σ H1 ⟨a6, rfl, s2⟩
      exact q _ (b11.trans (But.of (s1115.trans s2))) (R11.same (s1115.trans s2))
end
end My

namespace My
open PySem PySem.Spec PyProof.Rows L2 Gy Xl Xs Xt Xo Xp Xu
/-! ### what stands through a cell of the law -/
def cells (h m : Addr) (ad am : HA) : List Addr := [h, m, ad.Lk, ad.Ll, ad.Lq, ad.La, am.Lk, am.Ll, am.Lq, am.La]
structure Iv (K : PySem.W.Frag) (C : Addr) (H0 H : Hp) (r lu ln lo h m : Addr) (us ns os : List Str) (st : HS) (ad am : HA) : Prop where
  R : Rng H r
  fr : ∀ b o, H0 b = some o → b ≠ r → H b = some o
  hu : H lu = some (.lst (us.map V.str))
  hl : H ln = some (.lst (ns.map V.str))
  ho : H lo = some (.lst (os.map V.str))
  b : Both K C H h m st ad am
  nw : ∀ x ∈ cells h m ad am, H0 x = none
  sp : ∀ x ∈ [lu, ln, lo], x ≠ r ∧ x ∉ cells h m ad am
section
variable {K : PySem.W.Frag} {C : Addr} {H0 H H1 H2 : Hp} {r lu ln lo h m : Addr} {us ns os : List Str} {st st' : HS} {ad am ad' am' : HA}
theorem Mst.wo_ (x : Mst K H m st am) (R : Rng H r) (n : ∀ y ∈ [m, am.Lk, am.Ll, am.Lq, am.La], y ≠ r) : Mst K (wo r H) m st am := by
  obtain ⟨v1, a1, b1⟩ := x.lg
  obtain ⟨v2, a2, b2⟩ := x.qu
  obtain ⟨v3, a3, b3⟩ := x.an
  have f := fz_keep (show FzK H (wo r H) from fun b o u e => (wo_at (fun z => by
    obtain ⟨_, _, er, _⟩ := R
    rw [z, er] at e
    cases e)).trans e)
  have k : ∀ {p : Addr} {o : HO}, H p = some o → p ∈ [m, am.Lk, am.Ll, am.Lq, am.La] → wo r H p = some o := fun e mp => (wo_at (n _ mp)).trans e
  exact ⟨k x.at_ (by simp), k x.lk (by simp), ⟨v1, k a1 (by simp), b1.same f⟩, x.jn.same f, ⟨v2, k a2 (by simp), b2.same f⟩, ⟨v3, k a3 (by simp), b3.same f⟩, x.sep⟩
theorem Hst.wo_ (x : Hst K C H h st ad) (R : Rng H r) (n : ∀ y ∈ [h, ad.Lk, ad.Ll, ad.Lq, ad.La], y ≠ r) : Hst K C (wo r H) h st ad := by
  obtain ⟨v1, a1, b1⟩ := x.lg
  obtain ⟨v2, a2, b2⟩ := x.qu
  obtain ⟨v3, a3, b3⟩ := x.an
  have f := fz_keep (show FzK H (wo r H) from fun b o u e => (wo_at (fun z => by
    obtain ⟨_, _, er, _⟩ := R
    rw [z, er] at e
    cases e)).trans e)
  have k : ∀ {p : Addr} {o : HO}, H p = some o → p ∈ [h, ad.Lk, ad.Ll, ad.Lq, ad.La] → wo r H p = some o := fun e mp => (wo_at (n _ mp)).trans e
  exact ⟨k x.at_ (by simp), k x.lk (by simp), ⟨v1, k a1 (by simp), b1.same f⟩, x.jn.same f, ⟨v2, k a2 (by simp), b2.same f⟩, ⟨v3, k a3 (by simp), b3.same f⟩, x.sep⟩
theorem Iv.ne (x : Iv K C H0 H r lu ln lo h m us ns os st ad am) (R0 : Rng H0 r) : ∀ y ∈ cells h m ad am, y ≠ r := fun y hy e => by
  have := x.nw y hy
  obtain ⟨_, _, er, _⟩ := R0
  rw [e, er] at this
  cases this
theorem Iv.wo_ (x : Iv K C H0 H r lu ln lo h m us ns os st ad am) (R0 : Rng H0 r) : Both K C (wo r H) h m st ad am := by
  have n := x.ne R0
  refine ⟨x.b.hx.wo_ x.R fun y hy => n y ?_, x.b.mx.wo_ x.R fun y hy => n y ?_, x.b.dj⟩
  · simp only [List.mem_cons, List.not_mem_nil, or_false] at hy
    unfold cells
    simp only [List.mem_cons, List.not_mem_nil, or_false]
    rcases hy with e | e | e | e | e <;> simp [e]
  · simp only [List.mem_cons, List.not_mem_nil, or_false] at hy
    unfold cells
    simp only [List.mem_cons, List.not_mem_nil, or_false]
    rcases hy with e | e | e | e | e <;> simp [e]
theorem Iv.but (x : Iv K C H0 H r lu ln lo h m us ns os st ad am) (R0 : Rng H0 r) (b : But r H H1) (R' : Rng H1 r) : Iv K C H0 H1 r lu ln lo h m us ns os st ad am :=
  ⟨R', fun y o e n => b _ _ n (x.fr _ _ e n), b _ _ (x.sp lu (by simp)).1 x.hu, b _ _ (x.sp ln (by simp)).1 x.hl, b _ _ (x.sp lo (by simp)).1 x.ho, ((x.wo_ R0).same (wo_but b)).same (wo_same r H1), x.nw, x.sp⟩
theorem Iv.same (x : Iv K C H0 H r lu ln lo h m us ns os st ad am) (R0 : Rng H0 r) (s : Same H H1) : Iv K C H0 H1 r lu ln lo h m us ns os st ad am := x.but R0 (But.of s) (x.R.same s)
theorem Iv.to (x : Iv K C H0 H r lu ln lo h m us ns os st ad am) (R0 : Rng H0 r) (t : BothTo K C H H1 h m ad am st' ad' am') : Iv K C H0 H1 r lu ln lo h m us ns os st' ad' am' := by
  have mem : ∀ {y}, y ∉ cells h m ad am → y ∉ [h, m] ∧ y ∉ [ad.Lk, ad.Ll, ad.Lq, ad.La] ∧ y ∉ [am.Lk, am.Ll, am.Lq, am.La] := fun {y} n => by
    unfold cells at n
    simp only [List.mem_cons, List.not_mem_nil, or_false, not_or] at n ⊢
    exact ⟨⟨n.1, n.2.1⟩, ⟨n.2.2.1, n.2.2.2.1, n.2.2.2.2.1, n.2.2.2.2.2.1⟩, n.2.2.2.2.2.2.1, n.2.2.2.2.2.2.2.1, n.2.2.2.2.2.2.2.2.1, n.2.2.2.2.2.2.2.2.2⟩
  have kp : ∀ {y o}, H y = some o → y ∉ cells h m ad am → H1 y = some o := fun {y o} e n => by
    obtain ⟨n1, n2, n3⟩ := mem n
    exact t.st y o e n1 n2 n3
  have nr : r ∉ cells h m ad am := fun z => x.ne R0 r z rfl
  have R1 : Rng H1 r := by
    obtain ⟨a, b, e, h2⟩ := x.R
    exact ⟨a, b, kp e nr, h2⟩
  have n0 : ∀ {y}, H y = none → H0 y = none := fun {y} e => by
    cases z : H0 y with
    | none => rfl
    | some o =>
      by_cases c : y = r
      · obtain ⟨_, _, er, _⟩ := x.R
        rw [c, er] at e
        cases e
      · rw [x.fr _ _ z c] at e
        cases e
  -- a cell of then is one of before, or it is new
  have cl : ∀ y ∈ cells h m ad' am', y ∈ cells h m ad am ∨ H y = none := fun y hy => by
    unfold cells at hy ⊢
    simp only [List.mem_cons, List.not_mem_nil, or_false] at hy ⊢
    rcases hy with e | e | e | e | e | e | e | e | e | e
    · exact .inl (.inl e)
    · exact .inl (by simp [e])
    · rcases t.na.lk with z | z
      · exact .inl (by simp [e, z])
      · exact .inr (e ▸ z)
    · rcases t.na.ll with z | z
      · exact .inl (by simp [e, z])
      · exact .inr (e ▸ z)
    · rcases t.na.lq with z | z
      · exact .inl (by simp [e, z])
      · exact .inr (e ▸ z)
    · rcases t.na.la with z | z
      · exact .inl (by simp [e, z])
      · exact .inr (e ▸ z)
    · rcases t.nm.lk with z | z
      · exact .inl (by simp [e, z])
      · exact .inr (e ▸ z)
    · rcases t.nm.ll with z | z
      · exact .inl (by simp [e, z])
      · exact .inr (e ▸ z)
    · rcases t.nm.lq with z | z
      · exact .inl (by simp [e, z])
      · exact .inr (e ▸ z)
    · rcases t.nm.la with z | z
      · exact .inl (by simp [e, z])
      · exact .inr (e ▸ z)
  have hs : ∀ y ∈ [lu, ln, lo], H y ≠ none := fun y hy e => by
    simp only [List.mem_cons, List.not_mem_nil, or_false] at hy
    rcases hy with rfl | rfl | rfl
    · rw [x.hu] at e; cases e
    · rw [x.hl] at e; cases e
    · rw [x.ho] at e; cases e
  refine ⟨R1, fun y o e n => kp (x.fr _ _ e n) (fun z => by rw [x.nw y z] at e; cases e), kp x.hu (x.sp lu (by simp)).2, kp x.hl (x.sp ln (by simp)).2, kp x.ho (x.sp lo (by simp)).2, t.b, fun y hy => ?_, fun y hy => ⟨(x.sp y hy).1, fun z => ?_⟩⟩
  · rcases cl y hy with z | z
    · exact x.nw y z
    · exact n0 z
  · rcases cl y z with z | z
    · exact (x.sp y hy).2 z
    · exact hs y hy z
end
theorem cut_mid1 (xs : List V) (n : Nat) (h : n ≤ xs.length) : cutV xs (some 1) (some (n : Int)) = (xs.drop 1).take (n - 1) := by
  unfold cutV
  rw [show (some 1 : Option Int) = some ((1 : Nat) : Int) from rfl, HT.sIx_nat, HT.sIx_nat, Nat.min_eq_left h]
  by_cases c : 1 ≤ xs.length
  · rw [Nat.min_eq_left c]
  · have : xs.length = 0 := by omega
    have e : xs = [] := List.eq_nil_of_length_eq_zero this
    rw [e]
    simp
theorem sq_byσ {A rest : TS} {D : Ends} {σ : L2.St} {H : Hp} (S : L2.St → Hp → Prop) (h1 : ∀ R : Ends, (∀ σ' H', S σ' H' → R.nx σ' H') → A R σ H) (h2 : ∀ σ' H', S σ' H' → rest D σ' H') : tSeq A rest D σ H := h1 _ h2
theorem fil_len : ∀ {xs : List Str} {a : Str}, xs.Nodup → a ∈ xs → (xs.filter (· ≠ a)).length + 1 = xs.length
  | x :: xs, a, nd, m => by
    obtain ⟨n1, n2⟩ := List.nodup_cons.mp nd
    by_cases e : x = a
    · subst e
      rw [List.filter_cons_of_neg (by simp), List.filter_eq_self.mpr (fun y hy => by
        have : y ≠ x := fun z => n1 (z ▸ hy)
        simpa using this)]
      rfl
    · have m2 : a ∈ xs := (List.mem_cons.mp m).elim (fun z => absurd z.symm e) id
      rw [List.filter_cons_of_pos (by simpa using e)]
      show (xs.filter (· ≠ a)).length + 1 + 1 = xs.length + 1
      rw [fil_len n2 m2]
/-- its own name first -/
theorem PathOk.front {xs : List Str} {c : Nat} {nm : Str} (p : PathOk xs c nm) : PathOk (nm :: xs.filter (· ≠ nm)) c nm := by
  have l : (nm :: xs.filter (· ≠ nm)).length = xs.length := by
    exact fil_len p.nd p.mem
  refine ⟨by rw [l]; exact p.l3, by rw [l]; exact p.l5, List.nodup_cons.mpr ⟨fun z => ?_, p.nd.filter _⟩, fun x hx => ?_, List.mem_cons_self, by rw [l]; exact p.cl⟩
  · have := (List.mem_filter.mp z).2
    simp at this
  · rcases List.mem_cons.mp hx with e | e
    · rw [e]
      exact p.nms nm p.mem
    · exact p.nms x (List.mem_filter.mp e).1
end My

namespace My
open PySem PySem.Spec PyProof.Rows L2 Gy Xl Xs Xt Xo Xp Xu
section
variable {P : Program} {w : World} {K : PySem.W.Frag} {mg : Str → Option Value} {base : Heap} {H H1 H2 : Hp} {C CR CB CD : Addr}
theorem ifs_use {t : TT} {A B : TS} {D : Ends} {σ : L2.St} {H : Hp} (S : Bool → Hp → Prop) (h1 : ∀ Q' : Bool → Hp → Prop, (∀ b H', S b H' → Q' b H') → t σ H Q') (hT : ∀ H', S true H' → A D σ H') (hF : ∀ H', S false H' → B D σ H') : tIfS t A B D σ H := by
  refine h1 _ fun b H' s => ?_
  cases b with
  | true => exact hT H' s
  | false => exact hF H' s
def spRight (K : PySem.W.Frag) : Sp := fun vs H Q _ => ∃ (r : Addr), vs = [.ref r] ∧ Rng H r ∧ ∀ H', But r H H' → Q (.bl true) H'
theorem el_of {us : List Str} (h : us.length = 11) : ∃ (n0 n1 : Str) (tl : List Str), us = n0 :: n1 :: tl ∧ tl.length = 9 := by
  match us, h with
  | a :: b :: tl, h => exact ⟨a, b, tl, rfl, by simpa using h⟩
theorem parts11 {us : List Str} {k : Nat} (l : us.length = 11) (nd : us.Nodup) (hk : k < 5) : ((us.drop 1).take (k + 1)).length = k + 1 ∧ (us.drop 6).length = 5 ∧ ((us.drop 1).take (k + 1)).Nodup ∧ (us.drop 6).Nodup ∧ us.getD 0 "" ∉ (us.drop 1).take (k + 1) ∧ us.getD 0 "" ∉ us.drop 6 := by
  obtain ⟨n0, n1, tl, rfl, tl9⟩ := el_of l
  obtain ⟨h1, h2⟩ := List.nodup_cons.mp nd
  refine ⟨?_, ?_, ?_, ?_, fun z => h1 (List.mem_of_mem_take z), fun z => h1 (List.mem_of_mem_drop (i := 5) z)⟩
  · rw [List.length_take, List.length_drop]
    omega
  · rw [List.length_drop]
    omega
  · exact (List.take_sublist _ _).nodup ((List.drop_sublist _ _).nodup nd)
  · exact (List.drop_sublist _ _).nodup nd
theorem rep_log {H : Hp} {t : Addr} {K : PySem.W.Frag} (z : Tz H t [.str "a", .str "x"]) (k : Nat) : Dns K (fz H) (List.replicate k [V.ref t]).flatten (List.replicate k (logD "a" "x")) := by
  induction k with
  | zero => exact .nil
  | succ k ih =>
    rw [List.replicate_succ, List.replicate_succ, List.flatten_cons]
    exact .cons (.tup (Tz.fz z) (.cons (.str _) (.cons (.str _) .nil))) ih
theorem ok_right {f : Addr} {fd : FuncData} (F : Fun K "_law_right" "_law_right" s_law_right f fd) (Y : Bn mg) (T : Ch K C) (MI : MkH P w K mg base C)
    (G_law_draw : Fk P w K mg base CX0 1 "_law_draw" ["_law_pot_here", "_law_count"] spDraw) (G_law_name : Fk P w K mg base CX0 2 "_law_name" ["_law_pot_here", "_law_used"] spName) (G_law_new : Fk P w K mg base CX0 1 "_law_new" ["_law_name_here", "_law_linked_here", "_law_logged"] (spNew K))
    (G_law_path : Fk P w K mg base CX0 2 "_law_path" ["_law_pot_here", "_law_model", "_law_others"] (spPathL K)) (G_law_ask_due : Fk P w K mg base CX0 2 "_law_ask_due" ["_law_model", "_law_path_here", "_law_cut"] (spDue K)) (G_law_ask_told : Fk P w K mg base CX0 7 "_law_ask_told" ["_law_host", "_law_path_here", "_law_cut"] (spTold K C))
    (G_law_agrees : Fg P w K mg base CX0 3 "_law_agrees" ["_law_host", "_law_model"] (spAgr K C)) (G_law_received_right : Fg P w K mg base CX0 13 "_law_received_right" ["_law_pot_here", "_law_host", "_law_model", "_law_path_here", "_law_cut"] (spRR K C)) (G_law_odd_right : Fg P w K mg base CX0 8 "_law_odd_right" ["_law_pot_here", "_law_host", "_law_model", "_law_path_here"] (spOR K C)) :
    FnG P w K mg base CX0 14 f fd ["_law_pot_here"] (spRight K) := by
  obtain ⟨fI, fdI, gI, MMk, KBI, FI⟩ := MI.ex
  have gT := MI.gm
  refine fun_g0 F sc_law_right (fun {vs H Q E} h => ?_) (fun cdv A outer s H vs Q E gd hr h => ?_)
  · obtain ⟨r, rfl, _⟩ := h
    rfl
  · obtain ⟨r, rfl, R0, q⟩ := h
    have hu70 := Room.units70 hr
    have hu1 := hu_of hr
    refine ⟨_, (pss_cons (ps_set (i := 1) sc_law_right.nd rfl (.inr rfl) (pe_lst pa_nil))
 (pss_cons (ps_for PassesOwn.never rfl (pi_range1 (by rfl) Y.range (pa_cons pe_int pa_nil)) (pg_name (i := 2) sc_law_right.nd rfl (Or.inl rfl))
 (pss_one (ps_expr (pe_bm PySem.F.plainAttrs_list PySem.F.slot_list_append PySem.F.type_list_append mt_append (pv 1) (pa_cons (pe_callF G_law_name (hr.mono (by decide)) (by rfl) pass0 (pa_cons (pv 0) (pa_cons (pv 1) pa_nil))) pa_nil)))))
 (pss_cons (ps_par (i := 3) (j := 4) (by rfl) sc_law_right.nd rfl rfl (by decide) rfl rfl (pa_cons (pe_slice sl_list (pv 1) (po_some pe_int) (po_some (pe_op op_add pe_int (pe_callF G_law_draw (hr.mono (by decide)) (by rfl) pass0 (pa_cons (pv 0) (pa_cons pe_int pa_nil)))))) (pa_cons (pe_slice sl_list (pv 1) (po_some pe_int) po_none) pa_nil)) (by rfl))
 (pss_cons (ps_set (i := 5) sc_law_right.nd rfl (.inl rfl) (pe_callF G_law_new (hr.mono (by decide)) (by rfl) pass0 (pa_cons (pe_ix ix_list (pv 1) pe_int (fun _ _ => rfl)) (pa_cons (pv 3) (pa_cons (pe_op op_rep (pe_lst (pa_cons (pe_tupZ (pa_cons pe_str (pa_cons pe_str pa_nil))) pa_nil)) (pe_callF G_law_draw (hr.mono (by decide)) (by rfl) pass0 (pa_cons (pv 0) (pa_cons pe_int pa_nil)))) pa_nil)))))
 (pss_cons (ps_set (i := 6) sc_law_right.nd rfl (.inl rfl) (pe_makeK (n := 1) MMk FI (hr.mono (by decide)) (by rfl) gT KBI pass0 (pa_cons (pe_ix ix_list (pv 1) pe_int (fun _ _ => rfl)) pa_nil) (pk_cons (pv 3) (pk_cons (pe_dget hu1 (pv 5) pe_str (fun _ _ => rfl)) pk_nil))))
 (pss_cons (ps_for PassesOwn.never rfl (pi_range1 (by rfl) Y.range (pa_cons (pe_op op_add pe_int (pe_callF G_law_draw (hr.mono (by decide)) (by rfl) pass0 (pa_cons (pv 0) (pa_cons pe_int pa_nil)))) pa_nil)) (pg_name (i := 7) sc_law_right.nd rfl (Or.inl rfl))
 (pss_cons (ps_asg (pe_callF G_law_path (hr.mono (by decide)) (by rfl) pass0 (pa_cons (pv 0) (pa_cons (pv 5) (pa_cons (pv 4) pa_nil)))) (pg_tup (by rfl) (pgs_cons (pg_name (i := 8) sc_law_right.nd rfl (Or.inl rfl)) (pgs_cons (pg_name (i := 9) sc_law_right.nd rfl (Or.inl rfl)) pgs_nil))))
 (pss_cons (ps_if (pt_cmpR op_eq (pe_callF G_law_draw (hr.mono (by decide)) (by rfl) pass0 (pa_cons (pv 0) (pa_cons pe_int pa_nil))) pe_int (nomark _))
 (pss_one (ps_set (i := 8) sc_law_right.nd rfl (.inl rfl) (pe_op op_sum (pe_tupZ (pa_cons (pe_ix ix_list (pv 1) pe_int (fun _ _ => rfl)) pa_nil)) (pe_callTy call_tupOf (by rfl) Y.tuple (by decide +kernel) (pa_cons (pe_lc (own := [("_law_other", 11)]) (g := gName 11) (tt := tTest (tOp rNe (tVar 11) (tOp (rIxL K) (tVar 1) (tC (.int 0))))) rfl sc_law_right.nd (pi_tup (pv 8)) (blkOk_by (N := ["_law_pot_here", "_law_used", "_law_k", "_law_near", "_law_others", "_law_model", "_law_host", "_law_turn", "_law_path_here", "_law_cut", "_law_due", "_law_other"]) (sc := defScope s_law_right) (by decide +kernel)) (fun _ _ _ _ _ => (pg_name (i := 11) sc_law_right.nd rfl (Or.inl rfl))) (fun _ _ _ _ _ => (pts_one (pt_cmpR op_ne (pv 11) (pe_ix (show IxR _ (rIxL K) from ix_list) (pv 1) pe_int (fun _ _ => rfl)) (nomark _)))) (fun _ _ _ _ _ => (pv 11))) pa_nil)))))
 pss_nil)
 (pss_cons (ps_set (i := 9) sc_law_right.nd rfl (.inl rfl) (pe_callB (call_min2 rfl) (by rfl) Y.min (by decide +kernel) (pa_cons (pv 9) (pa_cons (pe_op op_sub (pe_callB call_len_seq (by rfl) Y.len PySem.boot_len (pa_cons (pv 8) pa_nil)) pe_int) pa_nil))))
 (pss_cons (ps_if (pt_cmpR op_lt (pe_callB call_len_seq (by rfl) Y.len PySem.boot_len (pa_cons (pv 8) pa_nil)) pe_int (nomark _))
 (pss_one (ps_par (i := 8) (j := 9) (by rfl) sc_law_right.nd rfl rfl (by decide) rfl rfl (pa_cons (pe_tupZ (pa_cons (pe_ix ix_list (pv 1) pe_int (fun _ _ => rfl)) (pa_cons (pe_ix ix_list (pv 3) pe_int (fun _ _ => rfl)) (pa_cons (pe_ix ix_list (pv 4) pe_int (fun _ _ => rfl)) pa_nil)))) (pa_cons pe_int pa_nil)) (by rfl)))
 pss_nil)
 (pss_cons (ps_if (PW.pt (pw_or (pt_cmpR op_eq (pe_ix ix_tup (pv 8) pe_int (fun _ _ => rfl)) (pe_ix ix_list (pv 1) pe_int (fun _ _ => rfl)) (nomark _)) (pw_or1 (pt_cmpR op_eq (pe_callF G_law_draw (hr.mono (by decide)) (by rfl) pass0 (pa_cons (pv 0) (pa_cons pe_int pa_nil))) pe_int (nomark _)))))
 (pss_cons (ps_set (i := 10) sc_law_right.nd rfl (.inl rfl) (pe_callF G_law_ask_due (hr.mono (by decide)) (by rfl) pass0 (pa_cons (pv 5) (pa_cons (pv 8) (pa_cons (pv 9) pa_nil)))))
 (pss_one (ps_if (PW.pt (pw_or (pt_cmpR op_ne (pe_callB (show CallR _ (.builtin "repr") (rReprN K) from repr_dn gd hu70) (by rfl) Y.repr (by decide +kernel) (pa_cons (pe_callF G_law_ask_told (hr.mono (by decide)) (by rfl) pass0 (pa_cons (pv 6) (pa_cons (pv 8) (pa_cons (pv 9) pa_nil)))) pa_nil)) (pe_callB (show CallR _ (.builtin "repr") (rReprN K) from repr_dn gd hu70) (by rfl) Y.repr (by decide +kernel) (pa_cons (pv 10) pa_nil)) (nomark _)) (pw_or1 (pt_not (pt_val (pe_callFg (E := E0) G_law_agrees gd (hr.mono (by decide)) (by rfl) pass0 (pa_cons (pv 6) (pa_cons (pv 5) pa_nil))))))))
 (pss_one (ps_ret pe_bl))
 pss_nil)))
 (pss_one (ps_if (pt_not (pt_val (pe_callFg (E := E0) G_law_received_right gd (hr.mono (by decide)) (by rfl) pass0 (pa_cons (pv 0) (pa_cons (pv 6) (pa_cons (pv 5) (pa_cons (pv 8) (pa_cons (pv 9) pa_nil))))))))
 (pss_one (ps_ret pe_bl))
 pss_nil)))
 (pss_one (ps_if (pt_not (pt_val (pe_callFg (E := E0) G_law_odd_right gd (hr.mono (by decide)) (by rfl) pass0 (pa_cons (pv 0) (pa_cons (pv 6) (pa_cons (pv 5) (pa_cons (pv 8) pa_nil)))))))
 (pss_one (ps_ret pe_bl))
 pss_nil))))))))
 (pss_one (ps_ret pe_bl)))))))), ?_⟩
    refine ⟨Nat.zero_le _, fun lu nlu => ?_⟩
    have nlr := R0.ne nlu
    generalize hg : upd H lu _ = H1
    obtain ⟨s1, g1⟩ := upd_new hg nlu
    clear hg
    have R1 := R0.same s1
    refine ⟨11, rfl, by decide, by decide, ?_⟩
    refine for_it (walk_range (lo := 0) (n := 11)) (fun i σ H' => ∃ (a2 : Option V) (us : List Str), σ = [some (.ref r), some (.ref lu), a2, none, none, none, none, none, none, none, none, none] ∧ But r H H' ∧ Rng H' r ∧ H' lu = some (.lst (us.map V.str)) ∧ us.length = i ∧ us.Nodup ∧ ∀ x ∈ us, Nm x)
      ⟨none, [], rfl, But.of s1, R1, g1, rfl, List.nodup_nil, fun _ z => nomatch z⟩ (fun _ _ _ _ _ => trivial) ?_ ?_
    · rintro i y σ H2 HB hi ⟨a2, us, rfl, fr, R2, h2, l2, nd, nm⟩ ⟨rfl, rfl⟩
      refine ⟨_, rfl, .inl ⟨rfl, _, SqL.of h2⟩, _, rfl, _, rfl, r, lu, us, rfl, R2, nlr, h2, by omega, nm, fun H3 x b3 R3 nx nin => ?_⟩
      have h3 := b3 _ _ nlr h2
      refine ⟨lu, _, _, rfl, rfl, h3, (by rw [List.length_map]; exact small200 (by omega)), ?_⟩
      have em : us.map V.str ++ [.str x] = (us ++ [x]).map V.str := by rw [List.map_append]; rfl
      rw [em]
      refine ⟨_, us ++ [x], rfl, ((fr.trans b3).upd nlu), R3.upd2 nlr, upd_same, (by rw [List.length_append, l2]; rfl), ?_, fun z hz => ?_⟩
      · exact nodup_snoc nd nin
      · rcases List.mem_append.mp hz with hz | hz
        · exact nm z hz
        · rw [List.mem_singleton.mp hz]
          exact nx
    rintro σ H2 ⟨a2, us, rfl, fr, R2, hu, l11, nd, nm⟩
    obtain ⟨n0, n1, tl, eu, tl9⟩ := el_of l11
    -- the links and the others
    refine ⟨_, rfl, 1, rfl, _, rfl, r, 5, rfl, R2, by decide, by decide, fun H3 e b3 R3 e0 e1 => ?_⟩
    obtain ⟨k, rfl⟩ := Int.eq_ofNat_of_zero_le e0
    have k5 : k < 5 := by omega
    have hu3 := b3 _ _ nlr hu
    refine ⟨_, _, rfl, rfl, _, rfl, lu, _, rfl, SqL.of hu3, fun ln nln => ?_⟩
    rw [show (2 : Int) + (k : Int) = ((2 + k : Nat) : Int) by omega, cut_mid1 _ _ (by rw [List.length_map]; omega), show 2 + k - 1 = k + 1 by omega, ← List.map_drop, ← List.map_take]
    obtain ⟨nsl, osl, nsd, osd, n0s, n0o⟩ := parts11 l11 nd k5
    have nsm : ∀ x ∈ (us.drop 1).take (k + 1), x ∈ us := fun x hx => List.mem_of_mem_drop (List.mem_of_mem_take hx)
    have osm : ∀ x ∈ us.drop 6, x ∈ us := fun x hx => List.mem_of_mem_drop hx
    have a0 : atI (us.map V.str) 0 = some (.str (us.getD 0 "")) := at_nat (i := 0) (by omega)
    have n0m : us.getD 0 "" ∈ us := getD_mem (by omega)
    generalize (us.drop 1).take (k + 1) = ns at *
    generalize hn0 : us.getD 0 "" = n0 at *
    have nln_r := R3.ne nln
    have nln0 : H ln = none := but_none (fr.trans b3) nln_r nln
    generalize hg : upd H3 ln _ = H4
    obtain ⟨s4, g4⟩ := upd_new hg nln
    clear hg
    have R4 := R3.same s4
    have hu4 := s4 _ _ hu3
    have fr4 : But r H H4 := (fr.trans b3).trans (But.of s4)
    refine ⟨_, rfl, 6, rfl, lu, _, rfl, SqL.of hu4, fun lo nlo => ⟨_, _, rfl, ?_⟩⟩
    rw [show cutV (us.map V.str) (some 6) none = (us.drop 6).map V.str by
      rw [List.map_drop]
      exact cut_drop _ 6]
    generalize us.drop 6 = os at *
    have nlo_r := R4.ne nlo
    have nlo0 : H lo = none := but_none fr4 nlo_r nlo
    generalize hg : upd H4 lo _ = H5
    obtain ⟨s5, g5⟩ := upd_new hg nlo
    clear hg
    have R5 := R4.same s5
    have hu5 := s5 _ _ hu4
    have hl5 := s5 _ _ g4
    have fr5 : But r H H5 := fr4.trans (But.of s5)
    clear fr fr4 b3 hu hu3 hu4 g4 s4 s5 R2 R3 R4 e0 e1 g1 s1 R1
    -- the model
    refine ⟨_, rfl, lu, _, 0, _, rfl, rfl, SqL.of hu5, a0, _, rfl, (by show 2 ≤ sizeLine; decide), fun t6 o6 n6 s6 z6 => ?_⟩
    generalize upd H5 t6 o6 = H6 at s6 z6 ⊢
    refine ⟨(by show 1 ≤ sizeLine; decide), fun l7 n7 => ?_⟩
    have n7r := (R5.same s6).ne n7
    generalize hg : upd H6 l7 _ = H7
    obtain ⟨s7, g7⟩ := upd_new hg n7
    clear hg
    have R7 := (R5.same s6).same s7
    refine ⟨_, rfl, r, 2, rfl, R7, by decide, by decide, fun H8 e8 b8 R8 e80 e81 => ?_⟩
    obtain ⟨k2, rfl⟩ := Int.eq_ofNat_of_zero_le e80
    have k22 : k2 < 2 := by omega
    have g8 := b8 _ _ n7r g7
    refine ⟨l7, _, _, rfl, rfl, g8, by omega, by omega, (by rw [Int.toNat_natCast]; exact le400 (by show 1 * k2 ≤ 10000; omega)), fun l9 n9 => ?_⟩
    rw [Int.toNat_natCast]
    have n9r := R8.ne n9
    generalize hg : upd H8 l9 _ = H9
    obtain ⟨s9, g9⟩ := upd_new hg n9
    clear hg
    have z9 := ((z6.same s7).but R7 b8).same s9
    have b59 : But r H5 H9 := ((But.of (s6.trans s7)).trans b8).trans (But.of s9)
    have R9 := R8.same s9
    have hu9 := b59 _ _ nlr hu5
    have hl9 := b59 _ _ nln_r hl5
    have ho9 := b59 _ _ nlo_r g5
    have fr9 := fr5.trans b59
    clear b59 g7 n7r n7 g8 b8 s6 s7 s9 n9r R7 R8 e80 e81 hl5 hu5 g5 fr5 R5 z6
    have lgd := rep_log (K := K) z9 k2
    have lgl : ((List.replicate k2 [V.ref t6]).flatten).length ≤ 2 := by
      rw [List.length_flatten]
      simp
      omega
    generalize hlg : List.replicate k2 (logD "a" "x") = lg at lgd
    have lgm : lg.length ≤ 2 ∧ ∀ d ∈ lg, Bd 5 1000 d := by
      rw [← hlg]
      refine ⟨by rw [List.length_replicate]; omega, fun d hd => ?_⟩
      rw [List.eq_of_mem_replicate hd]
      exact okB.bd (by decide +kernel)
    refine ⟨ln, l9, n0, ns, _, lg, rfl, SqL.of hl9, by omega, SqL.of g9, by omega, lgd, fun H10 m am s10 nm10 mx k1 k2' k3 k4 => ?_⟩
    -- the host
    have fr10 := fr9.trans (But.of s10)
    have R10 := R9.same s10
    have hu10 := s10 _ _ hu9
    have hl10 := s10 _ _ hl9
    have ho10 := s10 _ _ ho9
    obtain ⟨vl, el, dl⟩ := mx.lg
    refine ⟨_, rfl, lu, _, 0, _, rfl, rfl, SqL.of hu10, a0, _, rfl, _, rfl, m, _, rfl, DGet.k (k := .inr "log") mx.at_, rfl, rfl, fun p dx np ndx nex => ?_⟩
    have s11 : Same H10 (upd (upd H10 dx (.own p)) p (.ins C dx [])) := same_upd2 (same_upd ndx) np
    have g11 : (upd (upd H10 dx (.own p)) p (.ins C dx [])) p = some (.ins C dx []) := upd_same
    generalize upd (upd H10 dx (.own p)) p (.ins C dx []) = H11 at s11 g11 ⊢
    have np10 : H10 p = none := np
    refine ⟨p, ln, am.Ll, dx, n0, ns, vl, lg, rfl, g11, .inl (SqL.of (s11 _ _ hl10)), by omega, SqL.of (s11 _ _ el), dl.same (fz_keep (FzK.of s11)), fun H12 ad ys off fk hx srt_ nd8 mem nk nl nq na => ⟨rfl, ?_⟩⟩
    obtain rfl : ys = srt ns := srt_of ((List.perm_ext_iff_of_nodup nd8 nsd).mpr mem) srt_
    have s12 : Same H10 H12 := off_same s11 np10 off
    have bnew : ∀ {y}, H10 y = none → H y = none := fun {y} e => but_none fr10 (fun z => by rw [z] at e; obtain ⟨_, _, er, _⟩ := R10; rw [er] at e; cases e) e
    have n11 : ∀ {y}, H11 y = none → H10 y = none := fun e => same_no s11 e
    have n9 : ∀ {y}, H9 y = none → H y = none := fun {y} e => but_none fr9 (fun z => by rw [z] at e; obtain ⟨_, _, er, _⟩ := R9; rw [er] at e; cases e) e
    have iv : Iv K C H H12 r lu ln lo p m us ns os ⟨n0, srt ns, lg, none, "free", [], []⟩ ad am := by
      refine ⟨R10.same s12, fun y o e n => s12 _ _ (fr10 _ _ n e), s12 _ _ hu10, s12 _ _ hl10, s12 _ _ ho10, ⟨hx, mx.same s12, fun x hx hy => ?_⟩, fun x hx => ?_, fun x hx => ⟨?_, fun hy => ?_⟩⟩
      · have z := mx.some4 x hy
        simp only [List.mem_cons, List.not_mem_nil, or_false] at hx
        rcases hx with e | e | e | e <;> rw [e] at z
        · exact z (n11 nk)
        · exact z (n11 nl)
        · exact z (n11 nq)
        · exact z (n11 na)
      · unfold cells at hx
        simp only [List.mem_cons, List.not_mem_nil, or_false] at hx
        rcases hx with e | e | e | e | e | e | e | e | e | e <;> rw [e]
        · exact bnew np10
        · exact n9 nm10
        · exact bnew (n11 nk)
        · exact bnew (n11 nl)
        · exact bnew (n11 nq)
        · exact bnew (n11 na)
        · exact n9 k1
        · exact n9 k2'
        · exact n9 k3
        · exact n9 k4
      · simp only [List.mem_cons, List.not_mem_nil, or_false] at hx
        rcases hx with e | e | e <;> rw [e] <;> assumption
      · have z : H9 x ≠ none ∧ H10 x ≠ none := by
          simp only [List.mem_cons, List.not_mem_nil, or_false] at hx
          rcases hx with e | e | e <;> rw [e]
          · exact ⟨(fun z => by rw [hu9] at z; cases z), (fun z => by rw [hu10] at z; cases z)⟩
          · exact ⟨(fun z => by rw [hl9] at z; cases z), (fun z => by rw [hl10] at z; cases z)⟩
          · exact ⟨(fun z => by rw [ho9] at z; cases z), (fun z => by rw [ho10] at z; cases z)⟩
        obtain ⟨z1, z2⟩ := z
        unfold cells at hy
        simp only [List.mem_cons, List.not_mem_nil, or_false] at hy
        rcases hy with e | e | e | e | e | e | e | e | e | e <;> rw [e] at z1 z2
        · exact z2 np10
        · exact z1 nm10
        · exact z2 (n11 nk)
        · exact z2 (n11 nl)
        · exact z2 (n11 nq)
        · exact z2 (n11 na)
        · exact z1 k1
        · exact z1 k2'
        · exact z1 k3
        · exact z1 k4
    have ok : SOk 0 ⟨n0, srt ns, lg, none, "free", [], []⟩ := by
      refine ⟨⟨nm n0 n0m, fun x hx => nm x (nsm x (srt_mem.mp hx)), srt_nd.mpr nsd, fun z => n0s (srt_mem.mp z), ?_⟩, rfl, Nat.le_refl _, fun d hd => (nomatch hd), lgm.1, lgm.2, .inl rfl, fun xs c z => (nomatch z), ?_, fun _ => ?_⟩ <;> (show (srt ns).length ≤ _; rw [srt_len]; omega)
    have osn : ∀ x ∈ os, Nm x := fun x hx => nm x (osm x hx)
    clear s12 s11 g11 off fk hx mx el dl np np10 s10 fr10 fr9 hu9 hl9 ho9 hu10 hl10 ho10 R9 R10 k1 k2' k3 k4 nm10 nk nl nq na bnew n11 n9 g9 lgd z9 nex ndx srt_ nd8 mem
    generalize hst : (⟨n0, srt ns, lg, none, "free", [], []⟩ : HS) = st at iv ok
    have enm : st.nm = n0 := by rw [← hst]
    clear hst hlg lgm lgl
    -- the turns
    refine ⟨_, rfl, r, 10, rfl, iv.R, by decide, by decide, fun H13 e13 b13 R13 e130 e131 => ?_⟩
    obtain ⟨tn, rfl⟩ := Int.eq_ofNat_of_zero_le e130
    have iv := iv.but R0 b13 R13
    clear b13 R13
    refine ⟨_, _, rfl, rfl, _, rfl, (by omega), (by omega), ?_⟩
    refine for_it (walk_range (lo := 0) (n := (1 + (tn : Int) - 0).toNat)) (fun i σ H' => ∃ (a7 a8 a9 a10 : Option V) (st : HS) (ad am : HA), σ = [some (.ref r), some (.ref lu), a2, some (.ref ln), some (.ref lo), some (.ref m), some (.ref p), a7, a8, a9, a10, none] ∧ Iv K C H H' r lu ln lo p m us ns os st ad am ∧ SOk i st ∧ st.nm = n0)
      ⟨none, none, none, none, st, ad, am, rfl, iv, ok, enm⟩ (fun _ _ _ _ _ => trivial) ?_ ?_
    · clear iv ok enm
      rintro i y σ H14 HB hi ⟨a7, a8, a9, a10, st, ad, am, rfl, iv, ok, enm⟩ ⟨rfl, rfl⟩
      have i9 : i ≤ 9 := by omega
      refine ⟨_, rfl, _, rfl, _, rfl, r, m, lo, st, am, os, rfl, iv.R, nlo_r, iv.ho, (iv.wo_ R0).mx, ok.sn, osl, osd, osn, (by rw [enm]; exact n0o), fun H15 t pa xs c b15 R15 zt zp pk => ?_⟩
      have iv := iv.but R0 b15 R15
      refine ⟨t, _, rfl, zt.sq, rfl, _, _, rfl, _, _, rfl, rfl, ?_⟩
      clear zt b15 R15
      dsimp only [tNext]
      -- perhaps its own name first
      refine sq_byσ (fun σ' H' => ∃ (pa' : Addr) (xs' : List Str), σ' = [some (.ref r), some (.ref lu), a2, some (.ref ln), some (.ref lo), some (.ref m), some (.ref p), some (.int (0 + (i : Int))), some (.ref pa'), some (.int (c : Int)), a10, none] ∧ Iv K C H H' r lu ln lo p m us ns os st ad am ∧ Tz H' pa' (xs'.map V.str) ∧ PathOk xs' c st.nm) (fun Rr hR => ?_) (fun σ' H16 hS => ?_)
      · refine ⟨_, rfl, r, 3, rfl, iv.R, by decide, by decide, fun H16 e b16 R16 _ _ => ⟨rfl, _, rfl, ite2 (fun _ => ?_) (fun _ => hR _ _ ⟨pa, xs, rfl, iv.but R0 b16 R16, zp.but iv.R b16, pk⟩)⟩⟩
        have zp := zp.but iv.R b16
        have iv := iv.but R0 b16 R16
        refine ⟨_, rfl, lu, _, 0, _, rfl, rfl, SqL.of iv.hu, a0, (by show 1 ≤ sizeLine; decide), fun t1 o1 m1 s17 z17 => ?_⟩
        generalize upd H16 t1 o1 = H17 at s17 z17 ⊢
        have zp := zp.same s17
        have iv := iv.same R0 s17
        refine ⟨_, rfl, pa, rfl, ⟨_, zp.sq⟩, fun D nD => ?_⟩
        refine lc_it (walk_tup (K := K) (a := pa) (xs := xs.map V.str)) (fun i H' => Same H17 H' ∧ H' D = some (.lst (((xs.take i).filter (· ≠ st.nm)).map V.str))) ⟨same_upd nD, upd_same⟩ (fun i H' _ h => (zp.same h.1).sq) ?_ ?_
        · rintro i y H3 H4 hi ⟨s3, hD⟩ ⟨rfl, hy⟩
          rw [List.getElem?_map] at hy
          obtain ⟨z, hz, rfl⟩ := Option.map_eq_some_iff.mp hy
          have iv3 := iv.same R0 s3
          refine ⟨rfl, _, rfl, _, rfl, lu, _, 0, _, rfl, rfl, SqL.of iv3.hu, a0, rfl, _, rfl, ite2 (fun cc => ?_) (fun cc => ?_)⟩
          · have c' : z ≠ st.nm := fun w => by
              rw [w, enm] at cc
              simp at cc
            refine ⟨_, rfl, _, hD, ?_, same_upd2 s3 nD, ?_⟩
            · rw [List.length_map]
              refine small200 (Nat.le_trans (List.length_filter_le _ _) ?_)
              rw [List.length_take]
              have := pk.l5
              omega
            · rw [upd_same, List.take_add_one, hz, List.filter_append, List.map_append]
              show some (HO.lst _) = some (HO.lst (_ ++ (List.filter _ [z]).map V.str))
              rw [List.filter_cons_of_pos (by simpa using c')]
              rfl
          · have c' : z = st.nm := by
              cases w : decide (z = st.nm) with
              | true => exact of_decide_eq_true w
              | false =>
                exfalso
                apply cc
                rw [decide_eq_false (fun e => of_decide_eq_false w (by injection e with e; rw [e, enm]))]
                rfl
            refine ⟨s3, ?_⟩
            rw [hD, List.take_add_one, hz, List.filter_append]
            show some (HO.lst _) = some (HO.lst ((_ ++ List.filter _ [z]).map V.str))
            rw [List.filter_cons_of_neg (by simpa using c'), List.filter_nil, List.append_nil]
        · rintro H3 ⟨s3, hD⟩
          rw [List.length_map, List.take_of_length_le (Nat.le_refl _)] at hD
          have pkf := pk.front
          have l5 := pkf.l5
          refine ⟨D, _, rfl, SqL.of hD, (by rw [List.length_map]; have : (xs.filter (· ≠ st.nm)).length ≤ xs.length := List.length_filter_le _ _; have := pk.l5; omega), fun t2 o2 m2 s4 z4 => ?_⟩
          generalize upd H3 t2 o2 = H4 at s4 z4 ⊢
          have z17 := z17.same (s3.trans s4)
          refine ⟨t1, t2, _, _, rfl, rfl, z17, z4, ?_, rot3 (sum_of z17 z4 fun t3 H5 s5 z5 => ?_)⟩
          · rw [List.length_map]
            exact le400 (by show 1 + (xs.filter (· ≠ st.nm)).length ≤ 10000; have : (st.nm :: xs.filter (· ≠ st.nm)).length = (xs.filter (· ≠ st.nm)).length + 1 := rfl; omega)
          · refine hR _ _ ⟨t3, st.nm :: xs.filter (· ≠ st.nm), rfl, iv.same R0 (s3.trans (s4.trans s5)), ?_, pkf⟩
            rw [List.map_cons, enm]
            rw [enm] at z5
            exact z5
      obtain ⟨pa, xs, rfl, iv, zp, pk⟩ := hS
      have l3 := pk.l3
      have l5 := pk.l5
      have cl := pk.cl
      -- the cut stays, the path is long enough
      refine ⟨_, rfl, _, rfl, pa, _, rfl, .inr zp.sq, _, _, rfl, rfl, _, _, rfl, ?_⟩
      rw [List.length_map, if_neg (by omega)]
      dsimp only [tNext]
      refine ⟨_, rfl, pa, _, rfl, .inr zp.sq, _, _, rfl, rfl, _, rfl, ite2 (fun cc => ?_) (fun _ => ?_)⟩
      · have := of_decide_eq_true cc
        rw [List.length_map] at this
        omega
      dsimp only [tNext]
      -- the ask
      refine sq_byσ (fun σ' H' => ∃ (a10' : Option V) (st' : HS) (ad' am' : HA), σ' = [some (.ref r), some (.ref lu), a2, some (.ref ln), some (.ref lo), some (.ref m), some (.ref p), some (.int (0 + (i : Int))), some (.ref pa), some (.int (c : Int)), a10', none] ∧ Iv K C H H' r lu ln lo p m us ns os st' ad' am' ∧ Tz H' pa (xs.map V.str) ∧ SOk (i + 1) st' ∧ st'.nm = n0) (fun Rr hR => ?_) (fun σ' H17 hS => ?_)
      · refine ifs_use (S := fun b H' => Iv K C H H' r lu ln lo p m us ns os st ad am ∧ Tz H' pa (xs.map V.str) ∧ (b = false → xs.getD 0 "" ≠ st.nm)) (fun Q' hq => ?_) (fun H17 hS => ?_) (fun H17 hS => ?_)
        · refine ⟨_, rfl, pa, _, 0, _, rfl, rfl, zp.sq, at_nat (i := 0) (by omega), _, rfl, lu, _, 0, _, rfl, rfl, SqL.of iv.hu, a0, rfl, _, rfl, ite2 (fun _ => hq true _ ⟨iv, zp, fun z => nomatch z⟩) (fun c1 => ?_)⟩
          have ne : xs.getD 0 "" ≠ st.nm := fun z => c1 (decide_eq_true (by rw [z, enm]))
          refine ⟨_, rfl, r, 3, rfl, iv.R, by decide, by decide, fun H18 e b18 R18 _ _ => ⟨rfl, _, rfl, hq _ _ ⟨iv.but R0 b18 R18, zp.but iv.R b18, fun _ => ne⟩⟩⟩
        · obtain ⟨iv, zp, _⟩ := hS
          refine ⟨_, rfl, _, rfl, _, rfl, m, pa, xs, c, st, am, rfl, iv.b.mx, zp, l3, fun H18 am8 v a8 dv => ?_⟩
          have x8 := iv.b.hx.offm iv.b.mx iv.b.dj a8.off a8.fk
          have zp8 := zp.fzk a8.fk
          have sm : sml (.tuple [.tuple (xs.map PyData.str), .int (c : Int)]) = true := sml_reld (c := c) pk.nms (by omega) cl
          have ir : isRel (reld xs c) = true := rel_of pk.nms pk.nd l3 cl
          refine ⟨_, rfl, _, rfl, _, rfl, p, .ref pa, .int (c : Int), .tuple (xs.map PyData.str), .int (c : Int), st, ad, rfl, .tup zp8 (dns_strs xs), .int _, sm, x8, (by have := ok.l6; omega), (fun no => absurd (ir.symm.trans no) (by decide)), fun xs' c' e _ H19 ad9 v9 ac dv9 => ?_⟩
          obtain ⟨rfl, rfl⟩ : xs = xs' ∧ c = c' := reld_inj e
          have ft := due_bd (st := st) ok.sn.nm pk
          obtain ⟨ad10, bt⟩ := iv.b.step a8 (fun _ => ⟨ad9, ac⟩)
          have ok' := (ok.own pk).mono (Nat.le_succ i)
          have nm' : (askR st xs c).1.nm = st.nm := by
            unfold askR
            split
            · rfl
            split
            · rfl
            split <;> rfl
          have so := iv.b.hx.some4
          have dv10 : Dn K H19 v (askR st xs c).2 := (dv.same (nf_off ac.off ac.fk (fun x hx => by
            simp only [List.mem_cons, List.not_mem_nil, or_false] at hx
            rcases hx with e | e | e | e
            · rw [e, iv.b.hx.at_]
              exact fun z => nomatch z
            · exact so x (by simp [e])
            · exact so x (by simp [e])
            · exact so x (by simp [e])))).same (nf_same _ _)
          generalize askR st xs c = O at *
          obtain ⟨st', ds⟩ := O
          dsimp only at *
          refine ⟨_, _, rfl, dv9, ft.1, ft.2.1, ft.2.2, _, rfl, _, _, rfl, dv10, ft.1, ft.2.1, ft.2.2, rfl, _, rfl, ite2 (fun cc => absurd cc (by rw [decide_eq_true rfl]; decide)) (fun _ => ?_)⟩
          refine ⟨_, rfl, _, rfl, p, m, st', ad10, am8, rfl, bt.b.hx, bt.b.mx, ok'.pos, (ok'.mono (by omega)).fits, fun H20 s20 => ⟨_, rfl, iteF ?_⟩⟩
          exact hR _ _ ⟨_, st', ad10, am8, rfl, (iv.to R0 bt).same R0 s20, (zp.fzk bt.fk).same s20, ok', nm'.trans enm⟩
        · obtain ⟨iv, zp, ne⟩ := hS
          refine ⟨_, rfl, _, rfl, _, rfl, _, rfl, _, rfl, r, p, m, pa, xs, c, i, st, ad, am, rfl, iv.b, zp, ok, i9, pk, ne rfl, fun H18 st' ad' am' bt ok' nm' => ⟨_, rfl, iteF ?_⟩⟩
          exact hR _ _ ⟨_, st', ad', am', rfl, iv.to R0 bt, zp.fzk bt.fk, ok', nm'.trans enm⟩
      obtain ⟨a10', st', ad', am', rfl, iv, zp, ok', nm'⟩ := hS
      have pk' : PathOk xs c st'.nm := by rw [nm', ← enm]; exact pk
      refine ⟨_, rfl, _, rfl, _, rfl, _, rfl, r, p, m, pa, xs, c, st', ad', am', rfl, iv.R, iv.wo_ R0, zp, ok'.mono (by omega), pk', fun H18 b18 R18 => ⟨_, rfl, iteF ?_⟩⟩
      exact ⟨_, _, _, _, st', ad', am', rfl, iv.but R0 b18 R18, ok', nm'⟩
    · rintro σ H14 ⟨a7, a8, a9, a10, st, ad, am, rfl, iv, _⟩
      exact q _ fun y o n e => iv.fr _ _ e n
/-- the law -/
theorem ok_law {f : Addr} {fd : FuncData} (F : Fun K "law" "law" s_law f fd) (Y : Bn mg) (G_law_pot : Fk P w K mg base CX0 1 "_law_pot" ["_law_script", "_law_k"] (spPot K)) (G_law_right : Fg P w K mg base CX0 14 "_law_right" ["_law_pot_here"] (spRight K)) : FnG P w K mg base CX0 15 f fd ["_law_script"] (spLaw K) := by
  refine fun_g0 F sc_law (fun {vs H Q E} h => ?_) (fun cdv A outer s H vs Q E gd hr h => ?_)
  · obtain ⟨a, ns, rfl, _⟩ := h
    rfl
  · obtain ⟨a, ns, rfl, hS, hn, q⟩ := h
    refine ⟨_, (pss_one (ps_ret (pe_callB (cr_all rfl) (by rfl) Y.all (by decide +kernel) (pa_cons (pe_lc (own := [("_law_k", 1)]) (g := gName 1) (tt := tYes) rfl sc_law.nd (pi_range1 (by rfl) Y.range (pa_cons (pe_callB (call_max2 rfl) (by rfl) Y.max (by decide +kernel) (pa_cons pe_int (pa_cons (pe_callB (call_min2 rfl) (by rfl) Y.min (by decide +kernel) (pa_cons pe_int (pa_cons (pe_callB call_len_seq (by rfl) Y.len PySem.boot_len (pa_cons (pv 0) pa_nil)) pa_nil))) pa_nil))) pa_nil)) (blkOk_by (N := ["_law_script", "_law_k"]) (sc := defScope s_law) (by decide +kernel)) (fun _ _ _ _ _ => (pg_name (i := 1) sc_law.nd rfl (Or.inl rfl))) (fun _ _ _ _ _ => pts_nil) (fun _ _ _ _ _ => (pe_callFg (E := E0) G_law_right gd hr (by rfl) pass0 (pa_cons (pe_callF G_law_pot (hr.mono (by decide)) (by rfl) pass0 (pa_cons (pv 0) (pa_cons (pv 1) pa_nil))) pa_nil)))) pa_nil)))), ?_⟩
    refine ⟨_, rfl, a, _, rfl, .inl hS, 6, _, rfl, 1, _, rfl, _, rfl, ?_, ?_, fun D1 nD1 => ?_⟩
    · rw [List.length_map]
      split <;> split <;> omega
    · rw [List.length_map]
      split <;> split <;> omega
    generalize hm : (Int.toNat _) = m
    have m6 : m ≤ 6 := by
      rw [List.length_map] at hm
      rw [← hm]
      split <;> split <;> omega
    refine lc_it (walk_range (lo := 0) (n := m)) (fun i H' => Same H H' ∧ H' D1 = some (.lst ((List.replicate i true).map V.bl))) ⟨same_upd nD1, upd_same⟩ (fun _ _ _ _ => trivial) ?_ ?_
    · rintro k y H7 H8 hk ⟨s7, hZ⟩ ⟨rfl, rfl⟩
      refine ⟨rfl, ?_⟩
      dsimp only [tYes]
      refine iteT ?_
      refine ⟨_, rfl, _, rfl, a, ns, k, (by show [V.ref a, V.int (0 + (k : Int))] = _; rw [Int.zero_add]), s7.seq hS, by omega, fun H9 r s9 nr R9 => ?_⟩
      refine ⟨r, rfl, R9, fun H10 b10 => ?_⟩
      have s10 : Same H8 H10 := fun b o e => b10 _ _ (fun z => by rw [z, nr] at e; cases e) (s9 _ _ e)
      have hZ10 : H10 D1 = _ := s10 _ _ hZ
      refine ⟨_, hZ10, ?_, same_upd2 (s7.trans s10) nD1, ?_⟩
      · rw [List.length_map, List.length_replicate]
        exact small200 (by omega)
      · rw [upd_same, List.replicate_succ', List.map_append]
        rfl
    · rintro H7 ⟨s7, hZ⟩
      refine ⟨D1, _, rfl, SqL.of hZ, ?_⟩
      rw [all_true]
      exact q _
end
end My

namespace My
open PySem PySem.Spec PyProof.Rows L2 Gy Xl Xs Xt Xo Xp Xu
theorem xb_mk {K : PySem.W.Frag} {x qual : Str} {st : Stmt} {f : Addr} {fd : FuncData} {ps ks : List Str} {g : List Value → List Value → List Value} {gV : List V → List V → List V} (F : Fun K x qual st f fd)
    (rel : ∀ {vs : List V} {us : List Value} {zs : List V} {ws : List Value}, Vals vs us → Vals zs ws → Vals (gV vs zs) (g us ws))
    (h : ∀ (kV doc pm : Value) (an : Option Addr) (cdv ct : Value) (b : Value) (us ws : List Value), (b :: g us ws).length = ps.length →
      bindArgs (PySem.W.fnOf x qual (defArgs st) (defBody st) (defScope st) .none kV doc pm an cdv ct) ⟨b :: us, ks.zip ws⟩ = pure (ps.zip (b :: g us ws))) : XB K fd ps ks g gV := by
  obtain ⟨oc, od, kV, doc, pm, an, cdv, ct, osl, rfl, lk, hcd⟩ := F.ex
  exact ⟨fun s b us ws _ hl => .of_eq (h kV doc pm an cdv ct b us ws hl), rel⟩
abbrev sI_InvalidName : Stmt := inClass (top 3) 0
theorem scI_InvalidName : FnScope ["self", "value"] ["self", "value"] (defScope sI_InvalidName) := ⟨rfl, rfl, rfl, by decide +kernel, rfl, by decide +kernel, by decide +kernel⟩
theorem raw_InvalidName {K : PySem.W.Frag} {c fI : Addr} {od an : Option Addr} {sl : Array (Option Value)} {oc kV dc pm cdv ct : Value}
    (ii : PySem.W.excInitIn K c [.type "ValueError", .type "Exception", .type "BaseException", .type "object"] "ValueError.__new__" = true) (ov : PySem.W.excOver K c [.type "ValueError", .type "Exception", .type "BaseException", .type "object"] = true) (sa : PySem.W.findIn K (.ref c) "__setattr__" = some (some (.builtin "object.__setattr__")))
    (ga : PySem.W.findIn K (.ref c) "__getattribute__" = some (some (.builtin "BaseException.__getattribute__"))) (gg : PySem.W.findIn K (.ref c) "__getattr__" = some none) (ca : PySem.W.findIn K (.ref c) "__class__" = some (some (.builtin "object.__class__")))
    (ex : PySem.W.subIn K (.ref c) (.type "BaseException") = some true) (ob : PySem.W.mroIn K c (.type "object") = some true) (hd : PySem.W.hasDictIn K c = true) (kp : PySem.W.keepIn K (.ref c) = true)
    (ty : PySem.W.typeIn K (.ref c) = some (.type "type")) (ini : PySem.W.findIn K (.ref c) "__init__" = some (some (.ref fI))) (tf : PySem.W.typeIn K (.ref fI) = some (.type "function"))
    (li : K.lookup fI = some ⟨oc, od, .func (PySem.W.fnOf "__init__" "InvalidName.__init__" (defArgs sI_InvalidName) (defBody sI_InvalidName) (defScope sI_InvalidName) .none kV dc pm an cdv ct), sl⟩) (ci : PySem.W.codeIn K cdv "InvalidName.__init__" = true) (ki : PySem.W.keepIn K (.ref fI) = true)
    (n0 : PySem.W.findIn K (.ref c) "value" = some none) : XCl K c ∧ ∀ (P : Program) (w : World) (mg : Str → Option Value) (base : Heap), mg "InvalidName" = some (.ref c) → Rz P w K mg base "InvalidName" "value" c := by
  have X : XCl K c := ⟨⟨_, _, _, _, PySem.F.excBase_ValueError, PySem.F.store_ValueError, ii, ov⟩, sa, ga, gg, ca, ex, ob, hd, kp⟩
  refine ⟨X, fun P w mg base gm => ?_⟩
  have F := fun_mk (st := sI_InvalidName) li ci ki
  refine ⟨gm, ty, fI, _, ⟨X, ini, tf⟩, ?_, xb_mk F (fun r _ => r) fun _ _ _ _ _ _ b us ws hl => match us, hl with | [_], _ => rfl⟩
  refine F.ok scI_InvalidName (fun vs H Q E h => ?_) (fun cdv A outer s H vs Q E hr h => ?_)
  · obtain ⟨a, v, rfl, _⟩ := h
    rfl
  · obtain ⟨a, v, rfl, ha, q⟩ := h
    exact ⟨_, pss_one (ps_xs (pv 0) (pv 1)), v, rfl, .ref a, rfl, a, c, rfl, X, n0, .inl ⟨ha, fun dx n ne => q dx n ne⟩⟩
abbrev sI_InvalidRelink : Stmt := inClass (top 5) 0
theorem scI_InvalidRelink : FnScope ["self", "value"] ["self", "value"] (defScope sI_InvalidRelink) := ⟨rfl, rfl, rfl, by decide +kernel, rfl, by decide +kernel, by decide +kernel⟩
theorem raw_InvalidRelink {K : PySem.W.Frag} {c fI : Addr} {od an : Option Addr} {sl : Array (Option Value)} {oc kV dc pm cdv ct : Value}
    (ii : PySem.W.excInitIn K c [.type "ValueError", .type "Exception", .type "BaseException", .type "object"] "ValueError.__new__" = true) (ov : PySem.W.excOver K c [.type "ValueError", .type "Exception", .type "BaseException", .type "object"] = true) (sa : PySem.W.findIn K (.ref c) "__setattr__" = some (some (.builtin "object.__setattr__")))
    (ga : PySem.W.findIn K (.ref c) "__getattribute__" = some (some (.builtin "BaseException.__getattribute__"))) (gg : PySem.W.findIn K (.ref c) "__getattr__" = some none) (ca : PySem.W.findIn K (.ref c) "__class__" = some (some (.builtin "object.__class__")))
    (ex : PySem.W.subIn K (.ref c) (.type "BaseException") = some true) (ob : PySem.W.mroIn K c (.type "object") = some true) (hd : PySem.W.hasDictIn K c = true) (kp : PySem.W.keepIn K (.ref c) = true)
    (ty : PySem.W.typeIn K (.ref c) = some (.type "type")) (ini : PySem.W.findIn K (.ref c) "__init__" = some (some (.ref fI))) (tf : PySem.W.typeIn K (.ref fI) = some (.type "function"))
    (li : K.lookup fI = some ⟨oc, od, .func (PySem.W.fnOf "__init__" "InvalidRelink.__init__" (defArgs sI_InvalidRelink) (defBody sI_InvalidRelink) (defScope sI_InvalidRelink) .none kV dc pm an cdv ct), sl⟩) (ci : PySem.W.codeIn K cdv "InvalidRelink.__init__" = true) (ki : PySem.W.keepIn K (.ref fI) = true)
    (n0 : PySem.W.findIn K (.ref c) "value" = some none) : XCl K c ∧ ∀ (P : Program) (w : World) (mg : Str → Option Value) (base : Heap), mg "InvalidRelink" = some (.ref c) → Rz P w K mg base "InvalidRelink" "value" c := by
  have X : XCl K c := ⟨⟨_, _, _, _, PySem.F.excBase_ValueError, PySem.F.store_ValueError, ii, ov⟩, sa, ga, gg, ca, ex, ob, hd, kp⟩
  refine ⟨X, fun P w mg base gm => ?_⟩
  have F := fun_mk (st := sI_InvalidRelink) li ci ki
  refine ⟨gm, ty, fI, _, ⟨X, ini, tf⟩, ?_, xb_mk F (fun r _ => r) fun _ _ _ _ _ _ b us ws hl => match us, hl with | [_], _ => rfl⟩
  refine F.ok scI_InvalidRelink (fun vs H Q E h => ?_) (fun cdv A outer s H vs Q E hr h => ?_)
  · obtain ⟨a, v, rfl, _⟩ := h
    rfl
  · obtain ⟨a, v, rfl, ha, q⟩ := h
    exact ⟨_, pss_one (ps_xs (pv 0) (pv 1)), v, rfl, .ref a, rfl, a, c, rfl, X, n0, .inl ⟨ha, fun dx n ne => q dx n ne⟩⟩
abbrev sI_InvalidItem : Stmt := inClass (top 6) 0
theorem scI_InvalidItem : FnScope ["self", "value"] ["self", "value"] (defScope sI_InvalidItem) := ⟨rfl, rfl, rfl, by decide +kernel, rfl, by decide +kernel, by decide +kernel⟩
theorem raw_InvalidItem {K : PySem.W.Frag} {c fI : Addr} {od an : Option Addr} {sl : Array (Option Value)} {oc kV dc pm cdv ct : Value}
    (ii : PySem.W.excInitIn K c [.type "ValueError", .type "Exception", .type "BaseException", .type "object"] "ValueError.__new__" = true) (ov : PySem.W.excOver K c [.type "ValueError", .type "Exception", .type "BaseException", .type "object"] = true) (sa : PySem.W.findIn K (.ref c) "__setattr__" = some (some (.builtin "object.__setattr__")))
    (ga : PySem.W.findIn K (.ref c) "__getattribute__" = some (some (.builtin "BaseException.__getattribute__"))) (gg : PySem.W.findIn K (.ref c) "__getattr__" = some none) (ca : PySem.W.findIn K (.ref c) "__class__" = some (some (.builtin "object.__class__")))
    (ex : PySem.W.subIn K (.ref c) (.type "BaseException") = some true) (ob : PySem.W.mroIn K c (.type "object") = some true) (hd : PySem.W.hasDictIn K c = true) (kp : PySem.W.keepIn K (.ref c) = true)
    (ty : PySem.W.typeIn K (.ref c) = some (.type "type")) (ini : PySem.W.findIn K (.ref c) "__init__" = some (some (.ref fI))) (tf : PySem.W.typeIn K (.ref fI) = some (.type "function"))
    (li : K.lookup fI = some ⟨oc, od, .func (PySem.W.fnOf "__init__" "InvalidItem.__init__" (defArgs sI_InvalidItem) (defBody sI_InvalidItem) (defScope sI_InvalidItem) .none kV dc pm an cdv ct), sl⟩) (ci : PySem.W.codeIn K cdv "InvalidItem.__init__" = true) (ki : PySem.W.keepIn K (.ref fI) = true)
    (n0 : PySem.W.findIn K (.ref c) "value" = some none) : XCl K c ∧ ∀ (P : Program) (w : World) (mg : Str → Option Value) (base : Heap), mg "InvalidItem" = some (.ref c) → Rz P w K mg base "InvalidItem" "value" c := by
  have X : XCl K c := ⟨⟨_, _, _, _, PySem.F.excBase_ValueError, PySem.F.store_ValueError, ii, ov⟩, sa, ga, gg, ca, ex, ob, hd, kp⟩
  refine ⟨X, fun P w mg base gm => ?_⟩
  have F := fun_mk (st := sI_InvalidItem) li ci ki
  refine ⟨gm, ty, fI, _, ⟨X, ini, tf⟩, ?_, xb_mk F (fun r _ => r) fun _ _ _ _ _ _ b us ws hl => match us, hl with | [_], _ => rfl⟩
  refine F.ok scI_InvalidItem (fun vs H Q E h => ?_) (fun cdv A outer s H vs Q E hr h => ?_)
  · obtain ⟨a, v, rfl, _⟩ := h
    rfl
  · obtain ⟨a, v, rfl, ha, q⟩ := h
    exact ⟨_, pss_one (ps_xs (pv 0) (pv 1)), v, rfl, .ref a, rfl, a, c, rfl, X, n0, .inl ⟨ha, fun dx n ne => q dx n ne⟩⟩
abbrev sI_InvalidStep : Stmt := inClass (top 7) 0
theorem scI_InvalidStep : FnScope ["self", "host", "kind"] ["self", "host", "kind"] (defScope sI_InvalidStep) := ⟨rfl, rfl, rfl, by decide +kernel, rfl, by decide +kernel, by decide +kernel⟩
theorem raw_InvalidStep {K : PySem.W.Frag} {c fI : Addr} {od an : Option Addr} {sl : Array (Option Value)} {oc kV dc pm cdv ct : Value}
    (ii : PySem.W.excInitIn K c [.type "ValueError", .type "Exception", .type "BaseException", .type "object"] "ValueError.__new__" = true) (ov : PySem.W.excOver K c [.type "ValueError", .type "Exception", .type "BaseException", .type "object"] = true) (sa : PySem.W.findIn K (.ref c) "__setattr__" = some (some (.builtin "object.__setattr__")))
    (ga : PySem.W.findIn K (.ref c) "__getattribute__" = some (some (.builtin "BaseException.__getattribute__"))) (gg : PySem.W.findIn K (.ref c) "__getattr__" = some none) (ca : PySem.W.findIn K (.ref c) "__class__" = some (some (.builtin "object.__class__")))
    (ex : PySem.W.subIn K (.ref c) (.type "BaseException") = some true) (ob : PySem.W.mroIn K c (.type "object") = some true) (hd : PySem.W.hasDictIn K c = true) (kp : PySem.W.keepIn K (.ref c) = true)
    (ty : PySem.W.typeIn K (.ref c) = some (.type "type")) (ini : PySem.W.findIn K (.ref c) "__init__" = some (some (.ref fI))) (tf : PySem.W.typeIn K (.ref fI) = some (.type "function"))
    (li : K.lookup fI = some ⟨oc, od, .func (PySem.W.fnOf "__init__" "InvalidStep.__init__" (defArgs sI_InvalidStep) (defBody sI_InvalidStep) (defScope sI_InvalidStep) .none kV dc pm an cdv ct), sl⟩) (ci : PySem.W.codeIn K cdv "InvalidStep.__init__" = true) (ki : PySem.W.keepIn K (.ref fI) = true)
    (n0 : PySem.W.findIn K (.ref c) "host" = some none) (n1 : PySem.W.findIn K (.ref c) "kind" = some none) : XCl K c ∧ ∀ (P : Program) (w : World) (mg : Str → Option Value) (base : Heap), mg "InvalidStep" = some (.ref c) → Rz2 P w K mg base "InvalidStep" "host" "kind" c := by
  have X : XCl K c := ⟨⟨_, _, _, _, PySem.F.excBase_ValueError, PySem.F.store_ValueError, ii, ov⟩, sa, ga, gg, ca, ex, ob, hd, kp⟩
  refine ⟨X, fun P w mg base gm => ?_⟩
  have F := fun_mk (st := sI_InvalidStep) li ci ki
  refine ⟨gm, ty, fI, _, ⟨X, ini, tf⟩, ?_, xb_mk F (fun r _ => r) fun _ _ _ _ _ _ b us ws hl => match us, hl with | [_, _], _ => rfl⟩
  refine F.ok scI_InvalidStep (fun vs H Q E h => ?_) (fun cdv A outer s H vs Q E hr h => ?_)
  · obtain ⟨a, v1, v2, rfl, _⟩ := h
    rfl
  · obtain ⟨a, v1, v2, rfl, ha, q⟩ := h
    exact ⟨_, pss_cons (ps_xs (pv 0) (pv 1)) (pss_one (ps_xs (pv 0) (pv 2))), v1, rfl, .ref a, rfl, a, c, rfl, X, n0, .inl ⟨ha, fun dx n ne => ⟨v2, rfl, .ref a, rfl, a, c, rfl, X, n1, .inr ⟨dx, _, upd_same, (upd_ne ne).trans upd_same, (by show 1 ≤ 900; decide), q dx n ne⟩⟩⟩⟩
abbrev sI_UnknownHost : Stmt := inClass (top 8) 0
theorem scI_UnknownHost : FnScope ["self", "host"] ["self", "host"] (defScope sI_UnknownHost) := ⟨rfl, rfl, rfl, by decide +kernel, rfl, by decide +kernel, by decide +kernel⟩
theorem raw_UnknownHost {K : PySem.W.Frag} {c fI : Addr} {od an : Option Addr} {sl : Array (Option Value)} {oc kV dc pm cdv ct : Value}
    (ii : PySem.W.excInitIn K c [.type "LookupError", .type "Exception", .type "BaseException", .type "object"] "LookupError.__new__" = true) (ov : PySem.W.excOver K c [.type "LookupError", .type "Exception", .type "BaseException", .type "object"] = true) (sa : PySem.W.findIn K (.ref c) "__setattr__" = some (some (.builtin "object.__setattr__")))
    (ga : PySem.W.findIn K (.ref c) "__getattribute__" = some (some (.builtin "BaseException.__getattribute__"))) (gg : PySem.W.findIn K (.ref c) "__getattr__" = some none) (ca : PySem.W.findIn K (.ref c) "__class__" = some (some (.builtin "object.__class__")))
    (ex : PySem.W.subIn K (.ref c) (.type "BaseException") = some true) (ob : PySem.W.mroIn K c (.type "object") = some true) (hd : PySem.W.hasDictIn K c = true) (kp : PySem.W.keepIn K (.ref c) = true)
    (ty : PySem.W.typeIn K (.ref c) = some (.type "type")) (ini : PySem.W.findIn K (.ref c) "__init__" = some (some (.ref fI))) (tf : PySem.W.typeIn K (.ref fI) = some (.type "function"))
    (li : K.lookup fI = some ⟨oc, od, .func (PySem.W.fnOf "__init__" "UnknownHost.__init__" (defArgs sI_UnknownHost) (defBody sI_UnknownHost) (defScope sI_UnknownHost) .none kV dc pm an cdv ct), sl⟩) (ci : PySem.W.codeIn K cdv "UnknownHost.__init__" = true) (ki : PySem.W.keepIn K (.ref fI) = true)
    (n0 : PySem.W.findIn K (.ref c) "host" = some none) : XCl K c ∧ ∀ (P : Program) (w : World) (mg : Str → Option Value) (base : Heap), mg "UnknownHost" = some (.ref c) → Rz P w K mg base "UnknownHost" "host" c := by
  have X : XCl K c := ⟨⟨_, _, _, _, PySem.F.excBase_LookupError, PySem.F.store_LookupError, ii, ov⟩, sa, ga, gg, ca, ex, ob, hd, kp⟩
  refine ⟨X, fun P w mg base gm => ?_⟩
  have F := fun_mk (st := sI_UnknownHost) li ci ki
  refine ⟨gm, ty, fI, _, ⟨X, ini, tf⟩, ?_, xb_mk F (fun r _ => r) fun _ _ _ _ _ _ b us ws hl => match us, hl with | [_], _ => rfl⟩
  refine F.ok scI_UnknownHost (fun vs H Q E h => ?_) (fun cdv A outer s H vs Q E hr h => ?_)
  · obtain ⟨a, v, rfl, _⟩ := h
    rfl
  · obtain ⟨a, v, rfl, ha, q⟩ := h
    exact ⟨_, pss_one (ps_xs (pv 0) (pv 1)), v, rfl, .ref a, rfl, a, c, rfl, X, n0, .inl ⟨ha, fun dx n ne => q dx n ne⟩⟩
abbrev sI_Busy : Stmt := inClass (top 9) 0
theorem scI_Busy : FnScope ["self", "host"] ["self", "host"] (defScope sI_Busy) := ⟨rfl, rfl, rfl, by decide +kernel, rfl, by decide +kernel, by decide +kernel⟩
theorem raw_Busy {K : PySem.W.Frag} {c fI : Addr} {od an : Option Addr} {sl : Array (Option Value)} {oc kV dc pm cdv ct : Value}
    (ii : PySem.W.excInitIn K c [.type "RuntimeError", .type "Exception", .type "BaseException", .type "object"] "RuntimeError.__new__" = true) (ov : PySem.W.excOver K c [.type "RuntimeError", .type "Exception", .type "BaseException", .type "object"] = true) (sa : PySem.W.findIn K (.ref c) "__setattr__" = some (some (.builtin "object.__setattr__")))
    (ga : PySem.W.findIn K (.ref c) "__getattribute__" = some (some (.builtin "BaseException.__getattribute__"))) (gg : PySem.W.findIn K (.ref c) "__getattr__" = some none) (ca : PySem.W.findIn K (.ref c) "__class__" = some (some (.builtin "object.__class__")))
    (ex : PySem.W.subIn K (.ref c) (.type "BaseException") = some true) (ob : PySem.W.mroIn K c (.type "object") = some true) (hd : PySem.W.hasDictIn K c = true) (kp : PySem.W.keepIn K (.ref c) = true)
    (ty : PySem.W.typeIn K (.ref c) = some (.type "type")) (ini : PySem.W.findIn K (.ref c) "__init__" = some (some (.ref fI))) (tf : PySem.W.typeIn K (.ref fI) = some (.type "function"))
    (li : K.lookup fI = some ⟨oc, od, .func (PySem.W.fnOf "__init__" "Busy.__init__" (defArgs sI_Busy) (defBody sI_Busy) (defScope sI_Busy) .none kV dc pm an cdv ct), sl⟩) (ci : PySem.W.codeIn K cdv "Busy.__init__" = true) (ki : PySem.W.keepIn K (.ref fI) = true)
    (n0 : PySem.W.findIn K (.ref c) "host" = some none) : XCl K c ∧ ∀ (P : Program) (w : World) (mg : Str → Option Value) (base : Heap), mg "Busy" = some (.ref c) → Rz P w K mg base "Busy" "host" c := by
  have X : XCl K c := ⟨⟨_, _, _, _, PySem.F.excBase_RuntimeError, PySem.F.store_RuntimeError, ii, ov⟩, sa, ga, gg, ca, ex, ob, hd, kp⟩
  refine ⟨X, fun P w mg base gm => ?_⟩
  have F := fun_mk (st := sI_Busy) li ci ki
  refine ⟨gm, ty, fI, _, ⟨X, ini, tf⟩, ?_, xb_mk F (fun r _ => r) fun _ _ _ _ _ _ b us ws hl => match us, hl with | [_], _ => rfl⟩
  refine F.ok scI_Busy (fun vs H Q E h => ?_) (fun cdv A outer s H vs Q E hr h => ?_)
  · obtain ⟨a, v, rfl, _⟩ := h
    rfl
  · obtain ⟨a, v, rfl, ha, q⟩ := h
    exact ⟨_, pss_one (ps_xs (pv 0) (pv 1)), v, rfl, .ref a, rfl, a, c, rfl, X, n0, .inl ⟨ha, fun dx n ne => q dx n ne⟩⟩
abbrev sI_NotLinked : Stmt := inClass (top 10) 0
theorem scI_NotLinked : FnScope ["self", "host", "other"] ["self", "host", "other"] (defScope sI_NotLinked) := ⟨rfl, rfl, rfl, by decide +kernel, rfl, by decide +kernel, by decide +kernel⟩
theorem raw_NotLinked {K : PySem.W.Frag} {c fI : Addr} {od an : Option Addr} {sl : Array (Option Value)} {oc kV dc pm cdv ct : Value}
    (ii : PySem.W.excInitIn K c [.type "RuntimeError", .type "Exception", .type "BaseException", .type "object"] "RuntimeError.__new__" = true) (ov : PySem.W.excOver K c [.type "RuntimeError", .type "Exception", .type "BaseException", .type "object"] = true) (sa : PySem.W.findIn K (.ref c) "__setattr__" = some (some (.builtin "object.__setattr__")))
    (ga : PySem.W.findIn K (.ref c) "__getattribute__" = some (some (.builtin "BaseException.__getattribute__"))) (gg : PySem.W.findIn K (.ref c) "__getattr__" = some none) (ca : PySem.W.findIn K (.ref c) "__class__" = some (some (.builtin "object.__class__")))
    (ex : PySem.W.subIn K (.ref c) (.type "BaseException") = some true) (ob : PySem.W.mroIn K c (.type "object") = some true) (hd : PySem.W.hasDictIn K c = true) (kp : PySem.W.keepIn K (.ref c) = true)
    (ty : PySem.W.typeIn K (.ref c) = some (.type "type")) (ini : PySem.W.findIn K (.ref c) "__init__" = some (some (.ref fI))) (tf : PySem.W.typeIn K (.ref fI) = some (.type "function"))
    (li : K.lookup fI = some ⟨oc, od, .func (PySem.W.fnOf "__init__" "NotLinked.__init__" (defArgs sI_NotLinked) (defBody sI_NotLinked) (defScope sI_NotLinked) .none kV dc pm an cdv ct), sl⟩) (ci : PySem.W.codeIn K cdv "NotLinked.__init__" = true) (ki : PySem.W.keepIn K (.ref fI) = true)
    (n0 : PySem.W.findIn K (.ref c) "host" = some none) (n1 : PySem.W.findIn K (.ref c) "other" = some none) : XCl K c ∧ ∀ (P : Program) (w : World) (mg : Str → Option Value) (base : Heap), mg "NotLinked" = some (.ref c) → Rz2 P w K mg base "NotLinked" "host" "other" c := by
  have X : XCl K c := ⟨⟨_, _, _, _, PySem.F.excBase_RuntimeError, PySem.F.store_RuntimeError, ii, ov⟩, sa, ga, gg, ca, ex, ob, hd, kp⟩
  refine ⟨X, fun P w mg base gm => ?_⟩
  have F := fun_mk (st := sI_NotLinked) li ci ki
  refine ⟨gm, ty, fI, _, ⟨X, ini, tf⟩, ?_, xb_mk F (fun r _ => r) fun _ _ _ _ _ _ b us ws hl => match us, hl with | [_, _], _ => rfl⟩
  refine F.ok scI_NotLinked (fun vs H Q E h => ?_) (fun cdv A outer s H vs Q E hr h => ?_)
  · obtain ⟨a, v1, v2, rfl, _⟩ := h
    rfl
  · obtain ⟨a, v1, v2, rfl, ha, q⟩ := h
    exact ⟨_, pss_cons (ps_xs (pv 0) (pv 1)) (pss_one (ps_xs (pv 0) (pv 2))), v1, rfl, .ref a, rfl, a, c, rfl, X, n0, .inl ⟨ha, fun dx n ne => ⟨v2, rfl, .ref a, rfl, a, c, rfl, X, n1, .inr ⟨dx, _, upd_same, (upd_ne ne).trans upd_same, (by show 1 ≤ 900; decide), q dx n ne⟩⟩⟩⟩
theorem exm_of {K : PySem.W.Frag} {C D : Addr} {cd : ClassData} {b : Bool} (bP : PySem.W.subIn K (.ref D) (.type "BaseException") = some true) (cl : PySem.W.clsIn K D = some cd) (ty : PySem.W.typeIn K (.ref D) = some (.type "type")) (ss : PySem.W.subIn K (.ref C) (.ref D) = some b) : PySem.W.exmOne K (.ref C) (.ref D) = some b := by
  unfold PySem.W.exmOne
  rw [bP, if_pos (by rfl)]
  show (if ((PySem.W.clsIn K D).isSome && PySem.W.typeIn K (.ref D) == some (.type "type")) = true then PySem.W.subIn K (.ref C) (.ref D) else none) = _
  rw [cl, ty, if_pos (by rfl)]
  exact ss
theorem kit_bt {K : PySem.W.Frag} {C : Addr} {T : String} {b : Bool} (m : PySem.W.kitMeta T = true) (sb : PySem.W.subIn K (.ref C) (.type T) = some b) : PySem.W.kitOne K (.ref C) (.type T) = some b := by
  unfold PySem.W.kitOne
  rw [if_neg (show ¬ ((Value.ref C == Value.type T) = true) from fun z => Value.noConfusion (beq_iff_eq.mp z))]
  show (if PySem.W.kitMeta T = true then PySem.W.subIn K (.ref C) (.type T) else none) = _
  rw [if_pos m]
  exact sb
theorem kit_sub {K : PySem.W.Frag} {C D : Addr} {cd : ClassData} {b : Bool} (ne : C ≠ D) (cl : PySem.W.clsIn K D = some cd) (ty : PySem.W.typeIn K (.ref D) = some (.type "type")) (sb : PySem.W.subIn K (.ref C) (.ref D) = some b) : PySem.W.kitOne K (.ref C) (.ref D) = some b := by
  unfold PySem.W.kitOne
  rw [if_neg (fun z => ne (Value.ref.inj (beq_iff_eq.mp z)))]
  show (if ((PySem.W.clsIn K D).isSome && PySem.W.typeIn K (.ref D) == some (.type "type")) = true then PySem.W.subIn K (.ref C) (.ref D) else none) = _
  rw [cl, ty, if_pos (by rfl)]
  exact sb
theorem no_ok {P : Program} {w : World} {K : PySem.W.Frag} {mg : Str → Option Value} {base : Heap} {f : Addr} {fd : FuncData} {ps : List Str} : FnOk P w K mg base CX0 1 f fd ps spNo := ⟨fun _ _ _ _ h => h.elim, fun _ _ _ _ _ _ _ _ _ _ _ _ _ h => h.elim⟩
theorem all_mk {l : PySem.W.OpenLaw} {w : World} {K : PySem.W.Frag} {h : Heap} {mg : Str → Option Value} {fa f_is_integer_from f_is_index f_is_text_of f_is_host_name f_is_word f_is_relink_path f_is_cut_of f_is_relink f_check_relink f_position f_are_message_parts f_is_control_kind f_is_item f_check_item f_is_received f_link_cut_behind f_ask_step f_no_step f_first_yes_step f_yes_step f_go_step f_back_step f_control_step f_law_pot f_law_draw f_law_choose f_law_name f_law_new f_law_awaited f_law_unlinked f_law_linked f_law_spread f_law_freed f_law_finished f_law_refused f_law_agreed f_law_gone_on f_law_asked f_law_received f_law_started f_law_shown f_law_agrees f_law_path f_law_ask_due f_law_ask_told f_law_received_right f_law_odd_right f_law_right f_law c_InvalidName c_InvalidRelink c_InvalidItem c_InvalidStep c_UnknownHost c_Busy c_NotLinked : Addr} {ck sa : Addr} {o_ck : Obj} {es_st : Array DictEntry} {n_st : Nat} {c_Host : Addr} {fTm_init : Addr} {odTm_init anTm_init : Option Addr} {slTm_init : Array (Option Value)} {ocTm_init kVTm_init dcTm_init pmTm_init cdTm_init ctTm_init : Value} {fTm_name : Addr} {odTm_name anTm_name : Option Addr} {slTm_name : Array (Option Value)} {ocTm_name kVTm_name dcTm_name pmTm_name cdTm_name ctTm_name : Value} {fTm_log : Addr} {odTm_log anTm_log : Option Addr} {slTm_log : Array (Option Value)} {ocTm_log kVTm_log dcTm_log pmTm_log cdTm_log ctTm_log : Value} {fTm_links : Addr} {odTm_links anTm_links : Option Addr} {slTm_links : Array (Option Value)} {ocTm_links kVTm_links dcTm_links pmTm_links cdTm_links ctTm_links : Value} {fTm_answers : Addr} {odTm_answers anTm_answers : Option Addr} {slTm_answers : Array (Option Value)} {ocTm_answers kVTm_answers dcTm_answers pmTm_answers cdTm_answers ctTm_answers : Value} {fTm_relink : Addr} {odTm_relink anTm_relink : Option Addr} {slTm_relink : Array (Option Value)} {ocTm_relink kVTm_relink dcTm_relink pmTm_relink cdTm_relink ctTm_relink : Value} {fTm_phase : Addr} {odTm_phase anTm_phase : Option Addr} {slTm_phase : Array (Option Value)} {ocTm_phase kVTm_phase dcTm_phase pmTm_phase cdTm_phase ctTm_phase : Value} {fTm_queue : Addr} {odTm_queue anTm_queue : Option Addr} {slTm_queue : Array (Option Value)} {ocTm_queue kVTm_queue dcTm_queue pmTm_queue cdTm_queue ctTm_queue : Value} {fTm_waits_for : Addr} {odTm_waits_for anTm_waits_for : Option Addr} {slTm_waits_for : Array (Option Value)} {ocTm_waits_for kVTm_waits_for dcTm_waits_for pmTm_waits_for cdTm_waits_for ctTm_waits_for : Value} {fTm_check_free : Addr} {odTm_check_free anTm_check_free : Option Addr} {slTm_check_free : Array (Option Value)} {ocTm_check_free kVTm_check_free dcTm_check_free pmTm_check_free cdTm_check_free ctTm_check_free : Value} {fTm_ask : Addr} {odTm_ask anTm_ask : Option Addr} {slTm_ask : Array (Option Value)} {ocTm_ask kVTm_ask dcTm_ask pmTm_ask cdTm_ask ctTm_ask : Value} {fTm_receive : Addr} {odTm_receive anTm_receive : Option Addr} {slTm_receive : Array (Option Value)} {ocTm_receive kVTm_receive dcTm_receive pmTm_receive cdTm_receive ctTm_receive : Value} {fTm_join_to : Addr} {odTm_join_to anTm_join_to : Option Addr} {slTm_join_to : Array (Option Value)} {ocTm_join_to kVTm_join_to dcTm_join_to pmTm_join_to cdTm_join_to ctTm_join_to : Value} {fTm_part_from : Addr} {odTm_part_from anTm_part_from : Option Addr} {slTm_part_from : Array (Option Value)} {ocTm_part_from kVTm_part_from dcTm_part_from pmTm_part_from cdTm_part_from ctTm_part_from : Value} {fTm_log_and_forward : Addr} {odTm_log_and_forward anTm_log_and_forward : Option Addr} {slTm_log_and_forward : Array (Option Value)} {ocTm_log_and_forward kVTm_log_and_forward dcTm_log_and_forward pmTm_log_and_forward cdTm_log_and_forward ctTm_log_and_forward : Value} {TTm_log_and_forward : Addr} {oTTm_log_and_forward : Obj} {fTm_accept : Addr} {odTm_accept anTm_accept : Option Addr} {slTm_accept : Array (Option Value)} {ocTm_accept kVTm_accept dcTm_accept pmTm_accept cdTm_accept ctTm_accept : Value} {fTm_accept_bye : Addr} {odTm_accept_bye anTm_accept_bye : Option Addr} {slTm_accept_bye : Array (Option Value)} {ocTm_accept_bye kVTm_accept_bye dcTm_accept_bye pmTm_accept_bye cdTm_accept_bye ctTm_accept_bye : Value} {fTm_can_join : Addr} {odTm_can_join anTm_can_join : Option Addr} {slTm_can_join : Array (Option Value)} {ocTm_can_join kVTm_can_join dcTm_can_join pmTm_can_join cdTm_can_join ctTm_can_join : Value} {fTm_next_host : Addr} {odTm_next_host anTm_next_host : Option Addr} {slTm_next_host : Array (Option Value)} {ocTm_next_host kVTm_next_host dcTm_next_host pmTm_next_host cdTm_next_host ctTm_next_host : Value} {fTm_act : Addr} {odTm_act anTm_act : Option Addr} {slTm_act : Array (Option Value)} {ocTm_act kVTm_act dcTm_act pmTm_act cdTm_act ctTm_act : Value} {fTm_process_queue : Addr} {odTm_process_queue anTm_process_queue : Option Addr} {slTm_process_queue : Array (Option Value)} {ocTm_process_queue kVTm_process_queue dcTm_process_queue pmTm_process_queue cdTm_process_queue ctTm_process_queue : Value} {cd_C : ClassData} {cd_B : ClassData} {cd_D : ClassData} (X : K.In h) (G : h.Ns mainGlobals mg) (hfa : mg "law" = some (.ref fa))
    {od_is_integer_from od_is_index od_is_text_of od_is_host_name od_is_word od_is_relink_path od_is_cut_of od_is_relink od_check_relink od_position od_are_message_parts od_is_control_kind od_is_item od_check_item od_is_received od_link_cut_behind od_ask_step od_no_step od_first_yes_step od_yes_step od_go_step od_back_step od_control_step od_law_pot od_law_draw od_law_choose od_law_name od_law_new od_law_awaited od_law_unlinked od_law_linked od_law_spread od_law_freed od_law_finished od_law_refused od_law_agreed od_law_gone_on od_law_asked od_law_received od_law_started od_law_shown od_law_agrees od_law_path od_law_ask_due od_law_ask_told od_law_received_right od_law_odd_right od_law_right od_law an_is_integer_from an_is_index an_is_text_of an_is_host_name an_is_word an_is_relink_path an_is_cut_of an_is_relink an_check_relink an_position an_are_message_parts an_is_control_kind an_is_item an_check_item an_is_received an_link_cut_behind an_ask_step an_no_step an_first_yes_step an_yes_step an_go_step an_back_step an_control_step an_law_pot an_law_draw an_law_choose an_law_name an_law_new an_law_awaited an_law_unlinked an_law_linked an_law_spread an_law_freed an_law_finished an_law_refused an_law_agreed an_law_gone_on an_law_asked an_law_received an_law_started an_law_shown an_law_agrees an_law_path an_law_ask_due an_law_ask_told an_law_received_right an_law_odd_right an_law_right an_law : Option Addr} {sl_is_integer_from sl_is_index sl_is_text_of sl_is_host_name sl_is_word sl_is_relink_path sl_is_cut_of sl_is_relink sl_check_relink sl_position sl_are_message_parts sl_is_control_kind sl_is_item sl_check_item sl_is_received sl_link_cut_behind sl_ask_step sl_no_step sl_first_yes_step sl_yes_step sl_go_step sl_back_step sl_control_step sl_law_pot sl_law_draw sl_law_choose sl_law_name sl_law_new sl_law_awaited sl_law_unlinked sl_law_linked sl_law_spread sl_law_freed sl_law_finished sl_law_refused sl_law_agreed sl_law_gone_on sl_law_asked sl_law_received sl_law_started sl_law_shown sl_law_agrees sl_law_path sl_law_ask_due sl_law_ask_told sl_law_received_right sl_law_odd_right sl_law_right sl_law : Array (Option Value)} {oc_is_integer_from oc_is_index oc_is_text_of oc_is_host_name oc_is_word oc_is_relink_path oc_is_cut_of oc_is_relink oc_check_relink oc_position oc_are_message_parts oc_is_control_kind oc_is_item oc_check_item oc_is_received oc_link_cut_behind oc_ask_step oc_no_step oc_first_yes_step oc_yes_step oc_go_step oc_back_step oc_control_step oc_law_pot oc_law_draw oc_law_choose oc_law_name oc_law_new oc_law_awaited oc_law_unlinked oc_law_linked oc_law_spread oc_law_freed oc_law_finished oc_law_refused oc_law_agreed oc_law_gone_on oc_law_asked oc_law_received oc_law_started oc_law_shown oc_law_agrees oc_law_path oc_law_ask_due oc_law_ask_told oc_law_received_right oc_law_odd_right oc_law_right oc_law kV_is_integer_from kV_is_index kV_is_text_of kV_is_host_name kV_is_word kV_is_relink_path kV_is_cut_of kV_is_relink kV_check_relink kV_position kV_are_message_parts kV_is_control_kind kV_is_item kV_check_item kV_is_received kV_link_cut_behind kV_ask_step kV_no_step kV_first_yes_step kV_yes_step kV_go_step kV_back_step kV_control_step kV_law_pot kV_law_draw kV_law_choose kV_law_name kV_law_new kV_law_awaited kV_law_unlinked kV_law_linked kV_law_spread kV_law_freed kV_law_finished kV_law_refused kV_law_agreed kV_law_gone_on kV_law_asked kV_law_received kV_law_started kV_law_shown kV_law_agrees kV_law_path kV_law_ask_due kV_law_ask_told kV_law_received_right kV_law_odd_right kV_law_right kV_law dc_is_integer_from dc_is_index dc_is_text_of dc_is_host_name dc_is_word dc_is_relink_path dc_is_cut_of dc_is_relink dc_check_relink dc_position dc_are_message_parts dc_is_control_kind dc_is_item dc_check_item dc_is_received dc_link_cut_behind dc_ask_step dc_no_step dc_first_yes_step dc_yes_step dc_go_step dc_back_step dc_control_step dc_law_pot dc_law_draw dc_law_choose dc_law_name dc_law_new dc_law_awaited dc_law_unlinked dc_law_linked dc_law_spread dc_law_freed dc_law_finished dc_law_refused dc_law_agreed dc_law_gone_on dc_law_asked dc_law_received dc_law_started dc_law_shown dc_law_agrees dc_law_path dc_law_ask_due dc_law_ask_told dc_law_received_right dc_law_odd_right dc_law_right dc_law pm_is_integer_from pm_is_index pm_is_text_of pm_is_host_name pm_is_word pm_is_relink_path pm_is_cut_of pm_is_relink pm_check_relink pm_position pm_are_message_parts pm_is_control_kind pm_is_item pm_check_item pm_is_received pm_link_cut_behind pm_ask_step pm_no_step pm_first_yes_step pm_yes_step pm_go_step pm_back_step pm_control_step pm_law_pot pm_law_draw pm_law_choose pm_law_name pm_law_new pm_law_awaited pm_law_unlinked pm_law_linked pm_law_spread pm_law_freed pm_law_finished pm_law_refused pm_law_agreed pm_law_gone_on pm_law_asked pm_law_received pm_law_started pm_law_shown pm_law_agrees pm_law_path pm_law_ask_due pm_law_ask_told pm_law_received_right pm_law_odd_right pm_law_right pm_law cd_is_integer_from cd_is_index cd_is_text_of cd_is_host_name cd_is_word cd_is_relink_path cd_is_cut_of cd_is_relink cd_check_relink cd_position cd_are_message_parts cd_is_control_kind cd_is_item cd_check_item cd_is_received cd_link_cut_behind cd_ask_step cd_no_step cd_first_yes_step cd_yes_step cd_go_step cd_back_step cd_control_step cd_law_pot cd_law_draw cd_law_choose cd_law_name cd_law_new cd_law_awaited cd_law_unlinked cd_law_linked cd_law_spread cd_law_freed cd_law_finished cd_law_refused cd_law_agreed cd_law_gone_on cd_law_asked cd_law_received cd_law_started cd_law_shown cd_law_agrees cd_law_path cd_law_ask_due cd_law_ask_told cd_law_received_right cd_law_odd_right cd_law_right cd_law ct_is_integer_from ct_is_index ct_is_text_of ct_is_host_name ct_is_word ct_is_relink_path ct_is_cut_of ct_is_relink ct_check_relink ct_position ct_are_message_parts ct_is_control_kind ct_is_item ct_check_item ct_is_received ct_link_cut_behind ct_ask_step ct_no_step ct_first_yes_step ct_yes_step ct_go_step ct_back_step ct_control_step ct_law_pot ct_law_draw ct_law_choose ct_law_name ct_law_new ct_law_awaited ct_law_unlinked ct_law_linked ct_law_spread ct_law_freed ct_law_finished ct_law_refused ct_law_agreed ct_law_gone_on ct_law_asked ct_law_received ct_law_started ct_law_shown ct_law_agrees ct_law_path ct_law_ask_due ct_law_ask_told ct_law_received_right ct_law_odd_right ct_law_right ct_law : Value}
    {t_LETTERS t_DIGITS t_LONGEST_NAME t_LONGEST_WORD t_SHORTEST_PATH t_MESSAGE t_BYE t_BITS : Tok}
    (a_is_integer_from : PySem.W.nsIn K mainGlobals "is_integer_from" = some (some (.ref f_is_integer_from))) (l_is_integer_from : K.lookup f_is_integer_from = some ⟨oc_is_integer_from, od_is_integer_from, .func (PySem.W.fnOf "is_integer_from" "is_integer_from" (defArgs s_is_integer_from) (defBody s_is_integer_from) (defScope s_is_integer_from) .none kV_is_integer_from dc_is_integer_from pm_is_integer_from an_is_integer_from cd_is_integer_from ct_is_integer_from), sl_is_integer_from⟩) (co_is_integer_from : PySem.W.codeIn K cd_is_integer_from "is_integer_from" = true) (k_is_integer_from : PySem.W.keepIn K (.ref f_is_integer_from) = true)
    (a_is_index : PySem.W.nsIn K mainGlobals "is_index" = some (some (.ref f_is_index))) (l_is_index : K.lookup f_is_index = some ⟨oc_is_index, od_is_index, .func (PySem.W.fnOf "is_index" "is_index" (defArgs s_is_index) (defBody s_is_index) (defScope s_is_index) .none kV_is_index dc_is_index pm_is_index an_is_index cd_is_index ct_is_index), sl_is_index⟩) (co_is_index : PySem.W.codeIn K cd_is_index "is_index" = true) (k_is_index : PySem.W.keepIn K (.ref f_is_index) = true)
    (a_is_text_of : PySem.W.nsIn K mainGlobals "is_text_of" = some (some (.ref f_is_text_of))) (l_is_text_of : K.lookup f_is_text_of = some ⟨oc_is_text_of, od_is_text_of, .func (PySem.W.fnOf "is_text_of" "is_text_of" (defArgs s_is_text_of) (defBody s_is_text_of) (defScope s_is_text_of) .none kV_is_text_of dc_is_text_of pm_is_text_of an_is_text_of cd_is_text_of ct_is_text_of), sl_is_text_of⟩) (co_is_text_of : PySem.W.codeIn K cd_is_text_of "is_text_of" = true) (k_is_text_of : PySem.W.keepIn K (.ref f_is_text_of) = true)
    (a_is_host_name : PySem.W.nsIn K mainGlobals "is_host_name" = some (some (.ref f_is_host_name))) (l_is_host_name : K.lookup f_is_host_name = some ⟨oc_is_host_name, od_is_host_name, .func (PySem.W.fnOf "is_host_name" "is_host_name" (defArgs s_is_host_name) (defBody s_is_host_name) (defScope s_is_host_name) .none kV_is_host_name dc_is_host_name pm_is_host_name an_is_host_name cd_is_host_name ct_is_host_name), sl_is_host_name⟩) (co_is_host_name : PySem.W.codeIn K cd_is_host_name "is_host_name" = true) (k_is_host_name : PySem.W.keepIn K (.ref f_is_host_name) = true)
    (a_is_word : PySem.W.nsIn K mainGlobals "is_word" = some (some (.ref f_is_word))) (l_is_word : K.lookup f_is_word = some ⟨oc_is_word, od_is_word, .func (PySem.W.fnOf "is_word" "is_word" (defArgs s_is_word) (defBody s_is_word) (defScope s_is_word) .none kV_is_word dc_is_word pm_is_word an_is_word cd_is_word ct_is_word), sl_is_word⟩) (co_is_word : PySem.W.codeIn K cd_is_word "is_word" = true) (k_is_word : PySem.W.keepIn K (.ref f_is_word) = true)
    (a_is_relink_path : PySem.W.nsIn K mainGlobals "is_relink_path" = some (some (.ref f_is_relink_path))) (l_is_relink_path : K.lookup f_is_relink_path = some ⟨oc_is_relink_path, od_is_relink_path, .func (PySem.W.fnOf "is_relink_path" "is_relink_path" (defArgs s_is_relink_path) (defBody s_is_relink_path) (defScope s_is_relink_path) .none kV_is_relink_path dc_is_relink_path pm_is_relink_path an_is_relink_path cd_is_relink_path ct_is_relink_path), sl_is_relink_path⟩) (co_is_relink_path : PySem.W.codeIn K cd_is_relink_path "is_relink_path" = true) (k_is_relink_path : PySem.W.keepIn K (.ref f_is_relink_path) = true)
    (a_is_cut_of : PySem.W.nsIn K mainGlobals "is_cut_of" = some (some (.ref f_is_cut_of))) (l_is_cut_of : K.lookup f_is_cut_of = some ⟨oc_is_cut_of, od_is_cut_of, .func (PySem.W.fnOf "is_cut_of" "is_cut_of" (defArgs s_is_cut_of) (defBody s_is_cut_of) (defScope s_is_cut_of) .none kV_is_cut_of dc_is_cut_of pm_is_cut_of an_is_cut_of cd_is_cut_of ct_is_cut_of), sl_is_cut_of⟩) (co_is_cut_of : PySem.W.codeIn K cd_is_cut_of "is_cut_of" = true) (k_is_cut_of : PySem.W.keepIn K (.ref f_is_cut_of) = true)
    (a_is_relink : PySem.W.nsIn K mainGlobals "is_relink" = some (some (.ref f_is_relink))) (l_is_relink : K.lookup f_is_relink = some ⟨oc_is_relink, od_is_relink, .func (PySem.W.fnOf "is_relink" "is_relink" (defArgs s_is_relink) (defBody s_is_relink) (defScope s_is_relink) .none kV_is_relink dc_is_relink pm_is_relink an_is_relink cd_is_relink ct_is_relink), sl_is_relink⟩) (co_is_relink : PySem.W.codeIn K cd_is_relink "is_relink" = true) (k_is_relink : PySem.W.keepIn K (.ref f_is_relink) = true)
    (a_check_relink : PySem.W.nsIn K mainGlobals "check_relink" = some (some (.ref f_check_relink))) (l_check_relink : K.lookup f_check_relink = some ⟨oc_check_relink, od_check_relink, .func (PySem.W.fnOf "check_relink" "check_relink" (defArgs s_check_relink) (defBody s_check_relink) (defScope s_check_relink) .none kV_check_relink dc_check_relink pm_check_relink an_check_relink cd_check_relink ct_check_relink), sl_check_relink⟩) (co_check_relink : PySem.W.codeIn K cd_check_relink "check_relink" = true) (k_check_relink : PySem.W.keepIn K (.ref f_check_relink) = true)
    (a_position : PySem.W.nsIn K mainGlobals "position" = some (some (.ref f_position))) (l_position : K.lookup f_position = some ⟨oc_position, od_position, .func (PySem.W.fnOf "position" "position" (defArgs s_position) (defBody s_position) (defScope s_position) .none kV_position dc_position pm_position an_position cd_position ct_position), sl_position⟩) (co_position : PySem.W.codeIn K cd_position "position" = true) (k_position : PySem.W.keepIn K (.ref f_position) = true)
    (a_are_message_parts : PySem.W.nsIn K mainGlobals "are_message_parts" = some (some (.ref f_are_message_parts))) (l_are_message_parts : K.lookup f_are_message_parts = some ⟨oc_are_message_parts, od_are_message_parts, .func (PySem.W.fnOf "are_message_parts" "are_message_parts" (defArgs s_are_message_parts) (defBody s_are_message_parts) (defScope s_are_message_parts) .none kV_are_message_parts dc_are_message_parts pm_are_message_parts an_are_message_parts cd_are_message_parts ct_are_message_parts), sl_are_message_parts⟩) (co_are_message_parts : PySem.W.codeIn K cd_are_message_parts "are_message_parts" = true) (k_are_message_parts : PySem.W.keepIn K (.ref f_are_message_parts) = true)
    (a_is_control_kind : PySem.W.nsIn K mainGlobals "is_control_kind" = some (some (.ref f_is_control_kind))) (l_is_control_kind : K.lookup f_is_control_kind = some ⟨oc_is_control_kind, od_is_control_kind, .func (PySem.W.fnOf "is_control_kind" "is_control_kind" (defArgs s_is_control_kind) (defBody s_is_control_kind) (defScope s_is_control_kind) .none kV_is_control_kind dc_is_control_kind pm_is_control_kind an_is_control_kind cd_is_control_kind ct_is_control_kind), sl_is_control_kind⟩) (co_is_control_kind : PySem.W.codeIn K cd_is_control_kind "is_control_kind" = true) (k_is_control_kind : PySem.W.keepIn K (.ref f_is_control_kind) = true)
    (a_is_item : PySem.W.nsIn K mainGlobals "is_item" = some (some (.ref f_is_item))) (l_is_item : K.lookup f_is_item = some ⟨oc_is_item, od_is_item, .func (PySem.W.fnOf "is_item" "is_item" (defArgs s_is_item) (defBody s_is_item) (defScope s_is_item) .none kV_is_item dc_is_item pm_is_item an_is_item cd_is_item ct_is_item), sl_is_item⟩) (co_is_item : PySem.W.codeIn K cd_is_item "is_item" = true) (k_is_item : PySem.W.keepIn K (.ref f_is_item) = true)
    (a_check_item : PySem.W.nsIn K mainGlobals "check_item" = some (some (.ref f_check_item))) (l_check_item : K.lookup f_check_item = some ⟨oc_check_item, od_check_item, .func (PySem.W.fnOf "check_item" "check_item" (defArgs s_check_item) (defBody s_check_item) (defScope s_check_item) .none kV_check_item dc_check_item pm_check_item an_check_item cd_check_item ct_check_item), sl_check_item⟩) (co_check_item : PySem.W.codeIn K cd_check_item "check_item" = true) (k_check_item : PySem.W.keepIn K (.ref f_check_item) = true)
    (a_is_received : PySem.W.nsIn K mainGlobals "is_received" = some (some (.ref f_is_received))) (l_is_received : K.lookup f_is_received = some ⟨oc_is_received, od_is_received, .func (PySem.W.fnOf "is_received" "is_received" (defArgs s_is_received) (defBody s_is_received) (defScope s_is_received) .none kV_is_received dc_is_received pm_is_received an_is_received cd_is_received ct_is_received), sl_is_received⟩) (co_is_received : PySem.W.codeIn K cd_is_received "is_received" = true) (k_is_received : PySem.W.keepIn K (.ref f_is_received) = true)
    (a_link_cut_behind : PySem.W.nsIn K mainGlobals "link_cut_behind" = some (some (.ref f_link_cut_behind))) (l_link_cut_behind : K.lookup f_link_cut_behind = some ⟨oc_link_cut_behind, od_link_cut_behind, .func (PySem.W.fnOf "link_cut_behind" "link_cut_behind" (defArgs s_link_cut_behind) (defBody s_link_cut_behind) (defScope s_link_cut_behind) .none kV_link_cut_behind dc_link_cut_behind pm_link_cut_behind an_link_cut_behind cd_link_cut_behind ct_link_cut_behind), sl_link_cut_behind⟩) (co_link_cut_behind : PySem.W.codeIn K cd_link_cut_behind "link_cut_behind" = true) (k_link_cut_behind : PySem.W.keepIn K (.ref f_link_cut_behind) = true)
    (a_ask_step : PySem.W.nsIn K mainGlobals "ask_step" = some (some (.ref f_ask_step))) (l_ask_step : K.lookup f_ask_step = some ⟨oc_ask_step, od_ask_step, .func (PySem.W.fnOf "ask_step" "ask_step" (defArgs s_ask_step) (defBody s_ask_step) (defScope s_ask_step) .none kV_ask_step dc_ask_step pm_ask_step an_ask_step cd_ask_step ct_ask_step), sl_ask_step⟩) (co_ask_step : PySem.W.codeIn K cd_ask_step "ask_step" = true) (k_ask_step : PySem.W.keepIn K (.ref f_ask_step) = true)
    (a_no_step : PySem.W.nsIn K mainGlobals "no_step" = some (some (.ref f_no_step))) (l_no_step : K.lookup f_no_step = some ⟨oc_no_step, od_no_step, .func (PySem.W.fnOf "no_step" "no_step" (defArgs s_no_step) (defBody s_no_step) (defScope s_no_step) .none kV_no_step dc_no_step pm_no_step an_no_step cd_no_step ct_no_step), sl_no_step⟩) (co_no_step : PySem.W.codeIn K cd_no_step "no_step" = true) (k_no_step : PySem.W.keepIn K (.ref f_no_step) = true)
    (a_first_yes_step : PySem.W.nsIn K mainGlobals "first_yes_step" = some (some (.ref f_first_yes_step))) (l_first_yes_step : K.lookup f_first_yes_step = some ⟨oc_first_yes_step, od_first_yes_step, .func (PySem.W.fnOf "first_yes_step" "first_yes_step" (defArgs s_first_yes_step) (defBody s_first_yes_step) (defScope s_first_yes_step) .none kV_first_yes_step dc_first_yes_step pm_first_yes_step an_first_yes_step cd_first_yes_step ct_first_yes_step), sl_first_yes_step⟩) (co_first_yes_step : PySem.W.codeIn K cd_first_yes_step "first_yes_step" = true) (k_first_yes_step : PySem.W.keepIn K (.ref f_first_yes_step) = true)
    (a_yes_step : PySem.W.nsIn K mainGlobals "yes_step" = some (some (.ref f_yes_step))) (l_yes_step : K.lookup f_yes_step = some ⟨oc_yes_step, od_yes_step, .func (PySem.W.fnOf "yes_step" "yes_step" (defArgs s_yes_step) (defBody s_yes_step) (defScope s_yes_step) .none kV_yes_step dc_yes_step pm_yes_step an_yes_step cd_yes_step ct_yes_step), sl_yes_step⟩) (co_yes_step : PySem.W.codeIn K cd_yes_step "yes_step" = true) (k_yes_step : PySem.W.keepIn K (.ref f_yes_step) = true)
    (a_go_step : PySem.W.nsIn K mainGlobals "go_step" = some (some (.ref f_go_step))) (l_go_step : K.lookup f_go_step = some ⟨oc_go_step, od_go_step, .func (PySem.W.fnOf "go_step" "go_step" (defArgs s_go_step) (defBody s_go_step) (defScope s_go_step) .none kV_go_step dc_go_step pm_go_step an_go_step cd_go_step ct_go_step), sl_go_step⟩) (co_go_step : PySem.W.codeIn K cd_go_step "go_step" = true) (k_go_step : PySem.W.keepIn K (.ref f_go_step) = true)
    (a_back_step : PySem.W.nsIn K mainGlobals "back_step" = some (some (.ref f_back_step))) (l_back_step : K.lookup f_back_step = some ⟨oc_back_step, od_back_step, .func (PySem.W.fnOf "back_step" "back_step" (defArgs s_back_step) (defBody s_back_step) (defScope s_back_step) .none kV_back_step dc_back_step pm_back_step an_back_step cd_back_step ct_back_step), sl_back_step⟩) (co_back_step : PySem.W.codeIn K cd_back_step "back_step" = true) (k_back_step : PySem.W.keepIn K (.ref f_back_step) = true)
    (a_control_step : PySem.W.nsIn K mainGlobals "control_step" = some (some (.ref f_control_step))) (l_control_step : K.lookup f_control_step = some ⟨oc_control_step, od_control_step, .func (PySem.W.fnOf "control_step" "control_step" (defArgs s_control_step) (defBody s_control_step) (defScope s_control_step) .none kV_control_step dc_control_step pm_control_step an_control_step cd_control_step ct_control_step), sl_control_step⟩) (co_control_step : PySem.W.codeIn K cd_control_step "control_step" = true) (k_control_step : PySem.W.keepIn K (.ref f_control_step) = true)
    (a_law_pot : PySem.W.nsIn K mainGlobals "_law_pot" = some (some (.ref f_law_pot))) (l_law_pot : K.lookup f_law_pot = some ⟨oc_law_pot, od_law_pot, .func (PySem.W.fnOf "_law_pot" "_law_pot" (defArgs s_law_pot) (defBody s_law_pot) (defScope s_law_pot) .none kV_law_pot dc_law_pot pm_law_pot an_law_pot cd_law_pot ct_law_pot), sl_law_pot⟩) (co_law_pot : PySem.W.codeIn K cd_law_pot "_law_pot" = true) (k_law_pot : PySem.W.keepIn K (.ref f_law_pot) = true)
    (a_law_draw : PySem.W.nsIn K mainGlobals "_law_draw" = some (some (.ref f_law_draw))) (l_law_draw : K.lookup f_law_draw = some ⟨oc_law_draw, od_law_draw, .func (PySem.W.fnOf "_law_draw" "_law_draw" (defArgs s_law_draw) (defBody s_law_draw) (defScope s_law_draw) .none kV_law_draw dc_law_draw pm_law_draw an_law_draw cd_law_draw ct_law_draw), sl_law_draw⟩) (co_law_draw : PySem.W.codeIn K cd_law_draw "_law_draw" = true) (k_law_draw : PySem.W.keepIn K (.ref f_law_draw) = true)
    (a_law_choose : PySem.W.nsIn K mainGlobals "_law_choose" = some (some (.ref f_law_choose))) (l_law_choose : K.lookup f_law_choose = some ⟨oc_law_choose, od_law_choose, .func (PySem.W.fnOf "_law_choose" "_law_choose" (defArgs s_law_choose) (defBody s_law_choose) (defScope s_law_choose) .none kV_law_choose dc_law_choose pm_law_choose an_law_choose cd_law_choose ct_law_choose), sl_law_choose⟩) (co_law_choose : PySem.W.codeIn K cd_law_choose "_law_choose" = true) (k_law_choose : PySem.W.keepIn K (.ref f_law_choose) = true)
    (a_law_name : PySem.W.nsIn K mainGlobals "_law_name" = some (some (.ref f_law_name))) (l_law_name : K.lookup f_law_name = some ⟨oc_law_name, od_law_name, .func (PySem.W.fnOf "_law_name" "_law_name" (defArgs s_law_name) (defBody s_law_name) (defScope s_law_name) .none kV_law_name dc_law_name pm_law_name an_law_name cd_law_name ct_law_name), sl_law_name⟩) (co_law_name : PySem.W.codeIn K cd_law_name "_law_name" = true) (k_law_name : PySem.W.keepIn K (.ref f_law_name) = true)
    (a_law_new : PySem.W.nsIn K mainGlobals "_law_new" = some (some (.ref f_law_new))) (l_law_new : K.lookup f_law_new = some ⟨oc_law_new, od_law_new, .func (PySem.W.fnOf "_law_new" "_law_new" (defArgs s_law_new) (defBody s_law_new) (defScope s_law_new) .none kV_law_new dc_law_new pm_law_new an_law_new cd_law_new ct_law_new), sl_law_new⟩) (co_law_new : PySem.W.codeIn K cd_law_new "_law_new" = true) (k_law_new : PySem.W.keepIn K (.ref f_law_new) = true)
    (a_law_awaited : PySem.W.nsIn K mainGlobals "_law_awaited" = some (some (.ref f_law_awaited))) (l_law_awaited : K.lookup f_law_awaited = some ⟨oc_law_awaited, od_law_awaited, .func (PySem.W.fnOf "_law_awaited" "_law_awaited" (defArgs s_law_awaited) (defBody s_law_awaited) (defScope s_law_awaited) .none kV_law_awaited dc_law_awaited pm_law_awaited an_law_awaited cd_law_awaited ct_law_awaited), sl_law_awaited⟩) (co_law_awaited : PySem.W.codeIn K cd_law_awaited "_law_awaited" = true) (k_law_awaited : PySem.W.keepIn K (.ref f_law_awaited) = true)
    (a_law_unlinked : PySem.W.nsIn K mainGlobals "_law_unlinked" = some (some (.ref f_law_unlinked))) (l_law_unlinked : K.lookup f_law_unlinked = some ⟨oc_law_unlinked, od_law_unlinked, .func (PySem.W.fnOf "_law_unlinked" "_law_unlinked" (defArgs s_law_unlinked) (defBody s_law_unlinked) (defScope s_law_unlinked) .none kV_law_unlinked dc_law_unlinked pm_law_unlinked an_law_unlinked cd_law_unlinked ct_law_unlinked), sl_law_unlinked⟩) (co_law_unlinked : PySem.W.codeIn K cd_law_unlinked "_law_unlinked" = true) (k_law_unlinked : PySem.W.keepIn K (.ref f_law_unlinked) = true)
    (a_law_linked : PySem.W.nsIn K mainGlobals "_law_linked" = some (some (.ref f_law_linked))) (l_law_linked : K.lookup f_law_linked = some ⟨oc_law_linked, od_law_linked, .func (PySem.W.fnOf "_law_linked" "_law_linked" (defArgs s_law_linked) (defBody s_law_linked) (defScope s_law_linked) .none kV_law_linked dc_law_linked pm_law_linked an_law_linked cd_law_linked ct_law_linked), sl_law_linked⟩) (co_law_linked : PySem.W.codeIn K cd_law_linked "_law_linked" = true) (k_law_linked : PySem.W.keepIn K (.ref f_law_linked) = true)
    (a_law_spread : PySem.W.nsIn K mainGlobals "_law_spread" = some (some (.ref f_law_spread))) (l_law_spread : K.lookup f_law_spread = some ⟨oc_law_spread, od_law_spread, .func (PySem.W.fnOf "_law_spread" "_law_spread" (defArgs s_law_spread) (defBody s_law_spread) (defScope s_law_spread) .none kV_law_spread dc_law_spread pm_law_spread an_law_spread cd_law_spread ct_law_spread), sl_law_spread⟩) (co_law_spread : PySem.W.codeIn K cd_law_spread "_law_spread" = true) (k_law_spread : PySem.W.keepIn K (.ref f_law_spread) = true)
    (a_law_freed : PySem.W.nsIn K mainGlobals "_law_freed" = some (some (.ref f_law_freed))) (l_law_freed : K.lookup f_law_freed = some ⟨oc_law_freed, od_law_freed, .func (PySem.W.fnOf "_law_freed" "_law_freed" (defArgs s_law_freed) (defBody s_law_freed) (defScope s_law_freed) .none kV_law_freed dc_law_freed pm_law_freed an_law_freed cd_law_freed ct_law_freed), sl_law_freed⟩) (co_law_freed : PySem.W.codeIn K cd_law_freed "_law_freed" = true) (k_law_freed : PySem.W.keepIn K (.ref f_law_freed) = true)
    (a_law_finished : PySem.W.nsIn K mainGlobals "_law_finished" = some (some (.ref f_law_finished))) (l_law_finished : K.lookup f_law_finished = some ⟨oc_law_finished, od_law_finished, .func (PySem.W.fnOf "_law_finished" "_law_finished" (defArgs s_law_finished) (defBody s_law_finished) (defScope s_law_finished) .none kV_law_finished dc_law_finished pm_law_finished an_law_finished cd_law_finished ct_law_finished), sl_law_finished⟩) (co_law_finished : PySem.W.codeIn K cd_law_finished "_law_finished" = true) (k_law_finished : PySem.W.keepIn K (.ref f_law_finished) = true)
    (a_law_refused : PySem.W.nsIn K mainGlobals "_law_refused" = some (some (.ref f_law_refused))) (l_law_refused : K.lookup f_law_refused = some ⟨oc_law_refused, od_law_refused, .func (PySem.W.fnOf "_law_refused" "_law_refused" (defArgs s_law_refused) (defBody s_law_refused) (defScope s_law_refused) .none kV_law_refused dc_law_refused pm_law_refused an_law_refused cd_law_refused ct_law_refused), sl_law_refused⟩) (co_law_refused : PySem.W.codeIn K cd_law_refused "_law_refused" = true) (k_law_refused : PySem.W.keepIn K (.ref f_law_refused) = true)
    (a_law_agreed : PySem.W.nsIn K mainGlobals "_law_agreed" = some (some (.ref f_law_agreed))) (l_law_agreed : K.lookup f_law_agreed = some ⟨oc_law_agreed, od_law_agreed, .func (PySem.W.fnOf "_law_agreed" "_law_agreed" (defArgs s_law_agreed) (defBody s_law_agreed) (defScope s_law_agreed) .none kV_law_agreed dc_law_agreed pm_law_agreed an_law_agreed cd_law_agreed ct_law_agreed), sl_law_agreed⟩) (co_law_agreed : PySem.W.codeIn K cd_law_agreed "_law_agreed" = true) (k_law_agreed : PySem.W.keepIn K (.ref f_law_agreed) = true)
    (a_law_gone_on : PySem.W.nsIn K mainGlobals "_law_gone_on" = some (some (.ref f_law_gone_on))) (l_law_gone_on : K.lookup f_law_gone_on = some ⟨oc_law_gone_on, od_law_gone_on, .func (PySem.W.fnOf "_law_gone_on" "_law_gone_on" (defArgs s_law_gone_on) (defBody s_law_gone_on) (defScope s_law_gone_on) .none kV_law_gone_on dc_law_gone_on pm_law_gone_on an_law_gone_on cd_law_gone_on ct_law_gone_on), sl_law_gone_on⟩) (co_law_gone_on : PySem.W.codeIn K cd_law_gone_on "_law_gone_on" = true) (k_law_gone_on : PySem.W.keepIn K (.ref f_law_gone_on) = true)
    (a_law_asked : PySem.W.nsIn K mainGlobals "_law_asked" = some (some (.ref f_law_asked))) (l_law_asked : K.lookup f_law_asked = some ⟨oc_law_asked, od_law_asked, .func (PySem.W.fnOf "_law_asked" "_law_asked" (defArgs s_law_asked) (defBody s_law_asked) (defScope s_law_asked) .none kV_law_asked dc_law_asked pm_law_asked an_law_asked cd_law_asked ct_law_asked), sl_law_asked⟩) (co_law_asked : PySem.W.codeIn K cd_law_asked "_law_asked" = true) (k_law_asked : PySem.W.keepIn K (.ref f_law_asked) = true)
    (a_law_received : PySem.W.nsIn K mainGlobals "_law_received" = some (some (.ref f_law_received))) (l_law_received : K.lookup f_law_received = some ⟨oc_law_received, od_law_received, .func (PySem.W.fnOf "_law_received" "_law_received" (defArgs s_law_received) (defBody s_law_received) (defScope s_law_received) .none kV_law_received dc_law_received pm_law_received an_law_received cd_law_received ct_law_received), sl_law_received⟩) (co_law_received : PySem.W.codeIn K cd_law_received "_law_received" = true) (k_law_received : PySem.W.keepIn K (.ref f_law_received) = true)
    (a_law_started : PySem.W.nsIn K mainGlobals "_law_started" = some (some (.ref f_law_started))) (l_law_started : K.lookup f_law_started = some ⟨oc_law_started, od_law_started, .func (PySem.W.fnOf "_law_started" "_law_started" (defArgs s_law_started) (defBody s_law_started) (defScope s_law_started) .none kV_law_started dc_law_started pm_law_started an_law_started cd_law_started ct_law_started), sl_law_started⟩) (co_law_started : PySem.W.codeIn K cd_law_started "_law_started" = true) (k_law_started : PySem.W.keepIn K (.ref f_law_started) = true)
    (a_law_shown : PySem.W.nsIn K mainGlobals "_law_shown" = some (some (.ref f_law_shown))) (l_law_shown : K.lookup f_law_shown = some ⟨oc_law_shown, od_law_shown, .func (PySem.W.fnOf "_law_shown" "_law_shown" (defArgs s_law_shown) (defBody s_law_shown) (defScope s_law_shown) .none kV_law_shown dc_law_shown pm_law_shown an_law_shown cd_law_shown ct_law_shown), sl_law_shown⟩) (co_law_shown : PySem.W.codeIn K cd_law_shown "_law_shown" = true) (k_law_shown : PySem.W.keepIn K (.ref f_law_shown) = true)
    (a_law_agrees : PySem.W.nsIn K mainGlobals "_law_agrees" = some (some (.ref f_law_agrees))) (l_law_agrees : K.lookup f_law_agrees = some ⟨oc_law_agrees, od_law_agrees, .func (PySem.W.fnOf "_law_agrees" "_law_agrees" (defArgs s_law_agrees) (defBody s_law_agrees) (defScope s_law_agrees) .none kV_law_agrees dc_law_agrees pm_law_agrees an_law_agrees cd_law_agrees ct_law_agrees), sl_law_agrees⟩) (co_law_agrees : PySem.W.codeIn K cd_law_agrees "_law_agrees" = true) (k_law_agrees : PySem.W.keepIn K (.ref f_law_agrees) = true)
    (a_law_path : PySem.W.nsIn K mainGlobals "_law_path" = some (some (.ref f_law_path))) (l_law_path : K.lookup f_law_path = some ⟨oc_law_path, od_law_path, .func (PySem.W.fnOf "_law_path" "_law_path" (defArgs s_law_path) (defBody s_law_path) (defScope s_law_path) .none kV_law_path dc_law_path pm_law_path an_law_path cd_law_path ct_law_path), sl_law_path⟩) (co_law_path : PySem.W.codeIn K cd_law_path "_law_path" = true) (k_law_path : PySem.W.keepIn K (.ref f_law_path) = true)
    (a_law_ask_due : PySem.W.nsIn K mainGlobals "_law_ask_due" = some (some (.ref f_law_ask_due))) (l_law_ask_due : K.lookup f_law_ask_due = some ⟨oc_law_ask_due, od_law_ask_due, .func (PySem.W.fnOf "_law_ask_due" "_law_ask_due" (defArgs s_law_ask_due) (defBody s_law_ask_due) (defScope s_law_ask_due) .none kV_law_ask_due dc_law_ask_due pm_law_ask_due an_law_ask_due cd_law_ask_due ct_law_ask_due), sl_law_ask_due⟩) (co_law_ask_due : PySem.W.codeIn K cd_law_ask_due "_law_ask_due" = true) (k_law_ask_due : PySem.W.keepIn K (.ref f_law_ask_due) = true)
    (a_law_ask_told : PySem.W.nsIn K mainGlobals "_law_ask_told" = some (some (.ref f_law_ask_told))) (l_law_ask_told : K.lookup f_law_ask_told = some ⟨oc_law_ask_told, od_law_ask_told, .func (PySem.W.fnOf "_law_ask_told" "_law_ask_told" (defArgs s_law_ask_told) (defBody s_law_ask_told) (defScope s_law_ask_told) .none kV_law_ask_told dc_law_ask_told pm_law_ask_told an_law_ask_told cd_law_ask_told ct_law_ask_told), sl_law_ask_told⟩) (co_law_ask_told : PySem.W.codeIn K cd_law_ask_told "_law_ask_told" = true) (k_law_ask_told : PySem.W.keepIn K (.ref f_law_ask_told) = true)
    (a_law_received_right : PySem.W.nsIn K mainGlobals "_law_received_right" = some (some (.ref f_law_received_right))) (l_law_received_right : K.lookup f_law_received_right = some ⟨oc_law_received_right, od_law_received_right, .func (PySem.W.fnOf "_law_received_right" "_law_received_right" (defArgs s_law_received_right) (defBody s_law_received_right) (defScope s_law_received_right) .none kV_law_received_right dc_law_received_right pm_law_received_right an_law_received_right cd_law_received_right ct_law_received_right), sl_law_received_right⟩) (co_law_received_right : PySem.W.codeIn K cd_law_received_right "_law_received_right" = true) (k_law_received_right : PySem.W.keepIn K (.ref f_law_received_right) = true)
    (a_law_odd_right : PySem.W.nsIn K mainGlobals "_law_odd_right" = some (some (.ref f_law_odd_right))) (l_law_odd_right : K.lookup f_law_odd_right = some ⟨oc_law_odd_right, od_law_odd_right, .func (PySem.W.fnOf "_law_odd_right" "_law_odd_right" (defArgs s_law_odd_right) (defBody s_law_odd_right) (defScope s_law_odd_right) .none kV_law_odd_right dc_law_odd_right pm_law_odd_right an_law_odd_right cd_law_odd_right ct_law_odd_right), sl_law_odd_right⟩) (co_law_odd_right : PySem.W.codeIn K cd_law_odd_right "_law_odd_right" = true) (k_law_odd_right : PySem.W.keepIn K (.ref f_law_odd_right) = true)
    (a_law_right : PySem.W.nsIn K mainGlobals "_law_right" = some (some (.ref f_law_right))) (l_law_right : K.lookup f_law_right = some ⟨oc_law_right, od_law_right, .func (PySem.W.fnOf "_law_right" "_law_right" (defArgs s_law_right) (defBody s_law_right) (defScope s_law_right) .none kV_law_right dc_law_right pm_law_right an_law_right cd_law_right ct_law_right), sl_law_right⟩) (co_law_right : PySem.W.codeIn K cd_law_right "_law_right" = true) (k_law_right : PySem.W.keepIn K (.ref f_law_right) = true)
    (a_law : PySem.W.nsIn K mainGlobals "law" = some (some (.ref f_law))) (l_law : K.lookup f_law = some ⟨oc_law, od_law, .func (PySem.W.fnOf "law" "law" (defArgs s_law) (defBody s_law) (defScope s_law) .none kV_law dc_law pm_law an_law cd_law ct_law), sl_law⟩) (co_law : PySem.W.codeIn K cd_law "law" = true) (k_law : PySem.W.keepIn K (.ref f_law) = true)
    (v_LETTERS : PySem.W.nsIn K mainGlobals "LETTERS" = some (some (.str LET t_LETTERS)))
    (v_DIGITS : PySem.W.nsIn K mainGlobals "DIGITS" = some (some (.str DIG t_DIGITS)))
    (v_LONGEST_NAME : PySem.W.nsIn K mainGlobals "LONGEST_NAME" = some (some (.int 8 t_LONGEST_NAME)))
    (v_LONGEST_WORD : PySem.W.nsIn K mainGlobals "LONGEST_WORD" = some (some (.int 12 t_LONGEST_WORD)))
    (v_SHORTEST_PATH : PySem.W.nsIn K mainGlobals "SHORTEST_PATH" = some (some (.int 3 t_SHORTEST_PATH)))
    (v_MESSAGE : PySem.W.nsIn K mainGlobals "MESSAGE" = some (some (.str "message" t_MESSAGE)))
    (v_BYE : PySem.W.nsIn K mainGlobals "BYE" = some (some (.str "bye" t_BYE)))
    (v_BITS : PySem.W.nsIn K mainGlobals "BITS" = some (some (.int 2 t_BITS)))
    (z_len : PySem.W.nsIn K mainGlobals "len" = some none)
    (z_range : PySem.W.nsIn K mainGlobals "range" = some none)
    (z_abs : PySem.W.nsIn K mainGlobals "abs" = some none)
    (z_max : PySem.W.nsIn K mainGlobals "max" = some none)
    (z_min : PySem.W.nsIn K mainGlobals "min" = some none)
    (z_divmod : PySem.W.nsIn K mainGlobals "divmod" = some none)
    (z_isinstance : PySem.W.nsIn K mainGlobals "isinstance" = some none)
    (z_str : PySem.W.nsIn K mainGlobals "str" = some none)
    (z_int : PySem.W.nsIn K mainGlobals "int" = some none)
    (z_bool : PySem.W.nsIn K mainGlobals "bool" = some none)
    (z_tuple : PySem.W.nsIn K mainGlobals "tuple" = some none)
    (z_list : PySem.W.nsIn K mainGlobals "list" = some none)
    (z_set : PySem.W.nsIn K mainGlobals "set" = some none)
    (z_dict : PySem.W.nsIn K mainGlobals "dict" = some none)
    (z_all : PySem.W.nsIn K mainGlobals "all" = some none)
    (z_any : PySem.W.nsIn K mainGlobals "any" = some none)
    (z_repr : PySem.W.nsIn K mainGlobals "repr" = some none)
    (z_sorted : PySem.W.nsIn K mainGlobals "sorted" = some none)
    (z_enumerate : PySem.W.nsIn K mainGlobals "enumerate" = some none)
    (z_zip : PySem.W.nsIn K mainGlobals "zip" = some none)
    (e_InvalidName : PySem.W.nsIn K mainGlobals "InvalidName" = some (some (.ref c_InvalidName))) (S_InvalidName : XCl K c_InvalidName ∧ ∀ (P : Program) (w : World) (mg : Str → Option Value) (base : Heap), mg "InvalidName" = some (.ref c_InvalidName) → Rz P w K mg base "InvalidName" "value" c_InvalidName)
    (e_InvalidRelink : PySem.W.nsIn K mainGlobals "InvalidRelink" = some (some (.ref c_InvalidRelink))) (S_InvalidRelink : XCl K c_InvalidRelink ∧ ∀ (P : Program) (w : World) (mg : Str → Option Value) (base : Heap), mg "InvalidRelink" = some (.ref c_InvalidRelink) → Rz P w K mg base "InvalidRelink" "value" c_InvalidRelink)
    (e_InvalidItem : PySem.W.nsIn K mainGlobals "InvalidItem" = some (some (.ref c_InvalidItem))) (S_InvalidItem : XCl K c_InvalidItem ∧ ∀ (P : Program) (w : World) (mg : Str → Option Value) (base : Heap), mg "InvalidItem" = some (.ref c_InvalidItem) → Rz P w K mg base "InvalidItem" "value" c_InvalidItem)
    (e_InvalidStep : PySem.W.nsIn K mainGlobals "InvalidStep" = some (some (.ref c_InvalidStep))) (S_InvalidStep : XCl K c_InvalidStep ∧ ∀ (P : Program) (w : World) (mg : Str → Option Value) (base : Heap), mg "InvalidStep" = some (.ref c_InvalidStep) → Rz2 P w K mg base "InvalidStep" "host" "kind" c_InvalidStep)
    (e_UnknownHost : PySem.W.nsIn K mainGlobals "UnknownHost" = some (some (.ref c_UnknownHost))) (S_UnknownHost : XCl K c_UnknownHost ∧ ∀ (P : Program) (w : World) (mg : Str → Option Value) (base : Heap), mg "UnknownHost" = some (.ref c_UnknownHost) → Rz P w K mg base "UnknownHost" "host" c_UnknownHost)
    (e_Busy : PySem.W.nsIn K mainGlobals "Busy" = some (some (.ref c_Busy))) (S_Busy : XCl K c_Busy ∧ ∀ (P : Program) (w : World) (mg : Str → Option Value) (base : Heap), mg "Busy" = some (.ref c_Busy) → Rz P w K mg base "Busy" "host" c_Busy)
    (e_NotLinked : PySem.W.nsIn K mainGlobals "NotLinked" = some (some (.ref c_NotLinked))) (S_NotLinked : XCl K c_NotLinked ∧ ∀ (P : Program) (w : World) (mg : Str → Option Value) (base : Heap), mg "NotLinked" = some (.ref c_NotLinked) → Rz2 P w K mg base "NotLinked" "host" "other" c_NotLinked)
    (v_CK : PySem.W.nsIn K mainGlobals "CONTROL_KINDS" = some (some (.ref ck)))
    (l_CK : K.lookup ck = some o_ck)
    (q_CK : KindsAt o_ck)
    (v_ST : PySem.W.nsIn K mainGlobals "STEPS" = some (some (.ref sa)))
    (l_ST : K.lookup sa = some ⟨.type "dict", none, .dict es_st n_st, #[]⟩)
    (q_ST : PySem.W.KeysLit w.params es_st.toList)
    (d_ask : PySem.W.nsIn K sa "ask" = some (some (.ref f_ask_step)))
    (d_no : PySem.W.nsIn K sa "no" = some (some (.ref f_no_step)))
    (d_yes : PySem.W.nsIn K sa "yes" = some (some (.ref f_yes_step)))
    (d_go : PySem.W.nsIn K sa "go" = some (some (.ref f_go_step)))
    (d_back : PySem.W.nsIn K sa "back" = some (some (.ref f_back_step)))
    (nd5 : [f_ask_step, f_no_step, f_yes_step, f_go_step, f_back_step].Nodup)
    (e_Host : PySem.W.nsIn K mainGlobals "Host" = some (some (.ref c_Host)))
    (T_pg : PySem.W.plainGet K c_Host Str.empty = true)
    (T_hd : PySem.W.hasDictIn K c_Host = true)
    (T_po : PySem.W.plainOver K c_Host = true)
    (T_sa : PySem.W.findIn K (.ref c_Host) "__setattr__" = some (some (.builtin "object.__setattr__")))
    (T_mk : PySem.W.makesIn K c_Host = true)
    (T_kc : PySem.W.keepIn K (.ref c_Host) = true)
    (T_nown_name : PySem.W.findIn K (.ref c_Host) "own_name" = some none)
    (T_nlinked : PySem.W.findIn K (.ref c_Host) "linked" = some none)
    (T_nlogged : PySem.W.findIn K (.ref c_Host) "logged" = some none)
    (T_njoined : PySem.W.findIn K (.ref c_Host) "joined" = some none)
    (T_nstage : PySem.W.findIn K (.ref c_Host) "stage" = some none)
    (T_nqueued : PySem.W.findIn K (.ref c_Host) "queued" = some none)
    (T_nfinished : PySem.W.findIn K (.ref c_Host) "finished" = some none)
    (aTm_init : PySem.W.findIn K (.ref c_Host) "__init__" = some (some (.ref fTm_init)))
    (iTm_init : PySem.W.isFn K (.ref fTm_init) = true)
    (lTm_init : K.lookup fTm_init = some ⟨ocTm_init, odTm_init, .func (PySem.W.fnOf "__init__" "Host.__init__" (defArgs m_init) (defBody m_init) (defScope m_init) .none kVTm_init dcTm_init pmTm_init anTm_init cdTm_init ctTm_init), slTm_init⟩)
    (cTm_init : PySem.W.codeIn K cdTm_init "Host.__init__" = true)
    (kTm_init : PySem.W.keepIn K (.ref fTm_init) = true)
    (aTm_name : PySem.W.findIn K (.ref c_Host) "name" = some (some (.ref fTm_name)))
    (iTm_name : PySem.W.isFn K (.ref fTm_name) = true)
    (lTm_name : K.lookup fTm_name = some ⟨ocTm_name, odTm_name, .func (PySem.W.fnOf "name" "Host.name" (defArgs m_name) (defBody m_name) (defScope m_name) .none kVTm_name dcTm_name pmTm_name anTm_name cdTm_name ctTm_name), slTm_name⟩)
    (cTm_name : PySem.W.codeIn K cdTm_name "Host.name" = true)
    (kTm_name : PySem.W.keepIn K (.ref fTm_name) = true)
    (aTm_log : PySem.W.findIn K (.ref c_Host) "log" = some (some (.ref fTm_log)))
    (iTm_log : PySem.W.isFn K (.ref fTm_log) = true)
    (lTm_log : K.lookup fTm_log = some ⟨ocTm_log, odTm_log, .func (PySem.W.fnOf "log" "Host.log" (defArgs m_log) (defBody m_log) (defScope m_log) .none kVTm_log dcTm_log pmTm_log anTm_log cdTm_log ctTm_log), slTm_log⟩)
    (cTm_log : PySem.W.codeIn K cdTm_log "Host.log" = true)
    (kTm_log : PySem.W.keepIn K (.ref fTm_log) = true)
    (aTm_links : PySem.W.findIn K (.ref c_Host) "links" = some (some (.ref fTm_links)))
    (iTm_links : PySem.W.isFn K (.ref fTm_links) = true)
    (lTm_links : K.lookup fTm_links = some ⟨ocTm_links, odTm_links, .func (PySem.W.fnOf "links" "Host.links" (defArgs m_links) (defBody m_links) (defScope m_links) .none kVTm_links dcTm_links pmTm_links anTm_links cdTm_links ctTm_links), slTm_links⟩)
    (cTm_links : PySem.W.codeIn K cdTm_links "Host.links" = true)
    (kTm_links : PySem.W.keepIn K (.ref fTm_links) = true)
    (aTm_answers : PySem.W.findIn K (.ref c_Host) "answers" = some (some (.ref fTm_answers)))
    (iTm_answers : PySem.W.isFn K (.ref fTm_answers) = true)
    (lTm_answers : K.lookup fTm_answers = some ⟨ocTm_answers, odTm_answers, .func (PySem.W.fnOf "answers" "Host.answers" (defArgs m_answers) (defBody m_answers) (defScope m_answers) .none kVTm_answers dcTm_answers pmTm_answers anTm_answers cdTm_answers ctTm_answers), slTm_answers⟩)
    (cTm_answers : PySem.W.codeIn K cdTm_answers "Host.answers" = true)
    (kTm_answers : PySem.W.keepIn K (.ref fTm_answers) = true)
    (aTm_relink : PySem.W.findIn K (.ref c_Host) "relink" = some (some (.ref fTm_relink)))
    (iTm_relink : PySem.W.isFn K (.ref fTm_relink) = true)
    (lTm_relink : K.lookup fTm_relink = some ⟨ocTm_relink, odTm_relink, .func (PySem.W.fnOf "relink" "Host.relink" (defArgs m_relink) (defBody m_relink) (defScope m_relink) .none kVTm_relink dcTm_relink pmTm_relink anTm_relink cdTm_relink ctTm_relink), slTm_relink⟩)
    (cTm_relink : PySem.W.codeIn K cdTm_relink "Host.relink" = true)
    (kTm_relink : PySem.W.keepIn K (.ref fTm_relink) = true)
    (aTm_phase : PySem.W.findIn K (.ref c_Host) "phase" = some (some (.ref fTm_phase)))
    (iTm_phase : PySem.W.isFn K (.ref fTm_phase) = true)
    (lTm_phase : K.lookup fTm_phase = some ⟨ocTm_phase, odTm_phase, .func (PySem.W.fnOf "phase" "Host.phase" (defArgs m_phase) (defBody m_phase) (defScope m_phase) .none kVTm_phase dcTm_phase pmTm_phase anTm_phase cdTm_phase ctTm_phase), slTm_phase⟩)
    (cTm_phase : PySem.W.codeIn K cdTm_phase "Host.phase" = true)
    (kTm_phase : PySem.W.keepIn K (.ref fTm_phase) = true)
    (aTm_queue : PySem.W.findIn K (.ref c_Host) "queue" = some (some (.ref fTm_queue)))
    (iTm_queue : PySem.W.isFn K (.ref fTm_queue) = true)
    (lTm_queue : K.lookup fTm_queue = some ⟨ocTm_queue, odTm_queue, .func (PySem.W.fnOf "queue" "Host.queue" (defArgs m_queue) (defBody m_queue) (defScope m_queue) .none kVTm_queue dcTm_queue pmTm_queue anTm_queue cdTm_queue ctTm_queue), slTm_queue⟩)
    (cTm_queue : PySem.W.codeIn K cdTm_queue "Host.queue" = true)
    (kTm_queue : PySem.W.keepIn K (.ref fTm_queue) = true)
    (aTm_waits_for : PySem.W.findIn K (.ref c_Host) "waits_for" = some (some (.ref fTm_waits_for)))
    (iTm_waits_for : PySem.W.isFn K (.ref fTm_waits_for) = true)
    (lTm_waits_for : K.lookup fTm_waits_for = some ⟨ocTm_waits_for, odTm_waits_for, .func (PySem.W.fnOf "waits_for" "Host.waits_for" (defArgs m_waits_for) (defBody m_waits_for) (defScope m_waits_for) .none kVTm_waits_for dcTm_waits_for pmTm_waits_for anTm_waits_for cdTm_waits_for ctTm_waits_for), slTm_waits_for⟩)
    (cTm_waits_for : PySem.W.codeIn K cdTm_waits_for "Host.waits_for" = true)
    (kTm_waits_for : PySem.W.keepIn K (.ref fTm_waits_for) = true)
    (aTm_check_free : PySem.W.findIn K (.ref c_Host) "check_free" = some (some (.ref fTm_check_free)))
    (iTm_check_free : PySem.W.isFn K (.ref fTm_check_free) = true)
    (lTm_check_free : K.lookup fTm_check_free = some ⟨ocTm_check_free, odTm_check_free, .func (PySem.W.fnOf "check_free" "Host.check_free" (defArgs m_check_free) (defBody m_check_free) (defScope m_check_free) .none kVTm_check_free dcTm_check_free pmTm_check_free anTm_check_free cdTm_check_free ctTm_check_free), slTm_check_free⟩)
    (cTm_check_free : PySem.W.codeIn K cdTm_check_free "Host.check_free" = true)
    (kTm_check_free : PySem.W.keepIn K (.ref fTm_check_free) = true)
    (aTm_ask : PySem.W.findIn K (.ref c_Host) "ask" = some (some (.ref fTm_ask)))
    (iTm_ask : PySem.W.isFn K (.ref fTm_ask) = true)
    (lTm_ask : K.lookup fTm_ask = some ⟨ocTm_ask, odTm_ask, .func (PySem.W.fnOf "ask" "Host.ask" (defArgs m_ask) (defBody m_ask) (defScope m_ask) .none kVTm_ask dcTm_ask pmTm_ask anTm_ask cdTm_ask ctTm_ask), slTm_ask⟩)
    (cTm_ask : PySem.W.codeIn K cdTm_ask "Host.ask" = true)
    (kTm_ask : PySem.W.keepIn K (.ref fTm_ask) = true)
    (aTm_receive : PySem.W.findIn K (.ref c_Host) "receive" = some (some (.ref fTm_receive)))
    (iTm_receive : PySem.W.isFn K (.ref fTm_receive) = true)
    (lTm_receive : K.lookup fTm_receive = some ⟨ocTm_receive, odTm_receive, .func (PySem.W.fnOf "receive" "Host.receive" (defArgs m_receive) (defBody m_receive) (defScope m_receive) .none kVTm_receive dcTm_receive pmTm_receive anTm_receive cdTm_receive ctTm_receive), slTm_receive⟩)
    (cTm_receive : PySem.W.codeIn K cdTm_receive "Host.receive" = true)
    (kTm_receive : PySem.W.keepIn K (.ref fTm_receive) = true)
    (aTm_join_to : PySem.W.findIn K (.ref c_Host) "join_to" = some (some (.ref fTm_join_to)))
    (iTm_join_to : PySem.W.isFn K (.ref fTm_join_to) = true)
    (lTm_join_to : K.lookup fTm_join_to = some ⟨ocTm_join_to, odTm_join_to, .func (PySem.W.fnOf "join_to" "Host.join_to" (defArgs m_join_to) (defBody m_join_to) (defScope m_join_to) .none kVTm_join_to dcTm_join_to pmTm_join_to anTm_join_to cdTm_join_to ctTm_join_to), slTm_join_to⟩)
    (cTm_join_to : PySem.W.codeIn K cdTm_join_to "Host.join_to" = true)
    (kTm_join_to : PySem.W.keepIn K (.ref fTm_join_to) = true)
    (aTm_part_from : PySem.W.findIn K (.ref c_Host) "part_from" = some (some (.ref fTm_part_from)))
    (iTm_part_from : PySem.W.isFn K (.ref fTm_part_from) = true)
    (lTm_part_from : K.lookup fTm_part_from = some ⟨ocTm_part_from, odTm_part_from, .func (PySem.W.fnOf "part_from" "Host.part_from" (defArgs m_part_from) (defBody m_part_from) (defScope m_part_from) .none kVTm_part_from dcTm_part_from pmTm_part_from anTm_part_from cdTm_part_from ctTm_part_from), slTm_part_from⟩)
    (cTm_part_from : PySem.W.codeIn K cdTm_part_from "Host.part_from" = true)
    (kTm_part_from : PySem.W.keepIn K (.ref fTm_part_from) = true)
    (aTm_log_and_forward : PySem.W.findIn K (.ref c_Host) "log_and_forward" = some (some (.ref fTm_log_and_forward)))
    (iTm_log_and_forward : PySem.W.isFn K (.ref fTm_log_and_forward) = true)
    (lTm_log_and_forward : K.lookup fTm_log_and_forward = some ⟨ocTm_log_and_forward, odTm_log_and_forward, .func (PySem.W.fnOf "log_and_forward" "Host.log_and_forward" (defArgs m_log_and_forward) (defBody m_log_and_forward) (defScope m_log_and_forward) (.ref TTm_log_and_forward) kVTm_log_and_forward dcTm_log_and_forward pmTm_log_and_forward anTm_log_and_forward cdTm_log_and_forward ctTm_log_and_forward), slTm_log_and_forward⟩)
    (cTm_log_and_forward : PySem.W.codeIn K cdTm_log_and_forward "Host.log_and_forward" = true)
    (kTm_log_and_forward : PySem.W.keepIn K (.ref fTm_log_and_forward) = true)
    (dlTm_log_and_forward : K.lookup TTm_log_and_forward = some oTTm_log_and_forward)
    (dqTm_log_and_forward : ∃ t n, oTTm_log_and_forward.data = .seq #[Value.none, Value.int 0 t] n)
    (aTm_accept : PySem.W.findIn K (.ref c_Host) "accept" = some (some (.ref fTm_accept)))
    (iTm_accept : PySem.W.isFn K (.ref fTm_accept) = true)
    (lTm_accept : K.lookup fTm_accept = some ⟨ocTm_accept, odTm_accept, .func (PySem.W.fnOf "accept" "Host.accept" (defArgs m_accept) (defBody m_accept) (defScope m_accept) .none kVTm_accept dcTm_accept pmTm_accept anTm_accept cdTm_accept ctTm_accept), slTm_accept⟩)
    (cTm_accept : PySem.W.codeIn K cdTm_accept "Host.accept" = true)
    (kTm_accept : PySem.W.keepIn K (.ref fTm_accept) = true)
    (aTm_accept_bye : PySem.W.findIn K (.ref c_Host) "accept_bye" = some (some (.ref fTm_accept_bye)))
    (iTm_accept_bye : PySem.W.isFn K (.ref fTm_accept_bye) = true)
    (lTm_accept_bye : K.lookup fTm_accept_bye = some ⟨ocTm_accept_bye, odTm_accept_bye, .func (PySem.W.fnOf "accept_bye" "Host.accept_bye" (defArgs m_accept_bye) (defBody m_accept_bye) (defScope m_accept_bye) .none kVTm_accept_bye dcTm_accept_bye pmTm_accept_bye anTm_accept_bye cdTm_accept_bye ctTm_accept_bye), slTm_accept_bye⟩)
    (cTm_accept_bye : PySem.W.codeIn K cdTm_accept_bye "Host.accept_bye" = true)
    (kTm_accept_bye : PySem.W.keepIn K (.ref fTm_accept_bye) = true)
    (aTm_can_join : PySem.W.findIn K (.ref c_Host) "can_join" = some (some (.ref fTm_can_join)))
    (iTm_can_join : PySem.W.isFn K (.ref fTm_can_join) = true)
    (lTm_can_join : K.lookup fTm_can_join = some ⟨ocTm_can_join, odTm_can_join, .func (PySem.W.fnOf "can_join" "Host.can_join" (defArgs m_can_join) (defBody m_can_join) (defScope m_can_join) .none kVTm_can_join dcTm_can_join pmTm_can_join anTm_can_join cdTm_can_join ctTm_can_join), slTm_can_join⟩)
    (cTm_can_join : PySem.W.codeIn K cdTm_can_join "Host.can_join" = true)
    (kTm_can_join : PySem.W.keepIn K (.ref fTm_can_join) = true)
    (aTm_next_host : PySem.W.findIn K (.ref c_Host) "next_host" = some (some (.ref fTm_next_host)))
    (iTm_next_host : PySem.W.isFn K (.ref fTm_next_host) = true)
    (lTm_next_host : K.lookup fTm_next_host = some ⟨ocTm_next_host, odTm_next_host, .func (PySem.W.fnOf "next_host" "Host.next_host" (defArgs m_next_host) (defBody m_next_host) (defScope m_next_host) .none kVTm_next_host dcTm_next_host pmTm_next_host anTm_next_host cdTm_next_host ctTm_next_host), slTm_next_host⟩)
    (cTm_next_host : PySem.W.codeIn K cdTm_next_host "Host.next_host" = true)
    (kTm_next_host : PySem.W.keepIn K (.ref fTm_next_host) = true)
    (aTm_act : PySem.W.findIn K (.ref c_Host) "act" = some (some (.ref fTm_act)))
    (iTm_act : PySem.W.isFn K (.ref fTm_act) = true)
    (lTm_act : K.lookup fTm_act = some ⟨ocTm_act, odTm_act, .func (PySem.W.fnOf "act" "Host.act" (defArgs m_act) (defBody m_act) (defScope m_act) .none kVTm_act dcTm_act pmTm_act anTm_act cdTm_act ctTm_act), slTm_act⟩)
    (cTm_act : PySem.W.codeIn K cdTm_act "Host.act" = true)
    (kTm_act : PySem.W.keepIn K (.ref fTm_act) = true)
    (aTm_process_queue : PySem.W.findIn K (.ref c_Host) "process_queue" = some (some (.ref fTm_process_queue)))
    (iTm_process_queue : PySem.W.isFn K (.ref fTm_process_queue) = true)
    (lTm_process_queue : K.lookup fTm_process_queue = some ⟨ocTm_process_queue, odTm_process_queue, .func (PySem.W.fnOf "process_queue" "Host.process_queue" (defArgs m_process_queue) (defBody m_process_queue) (defScope m_process_queue) .none kVTm_process_queue dcTm_process_queue pmTm_process_queue anTm_process_queue cdTm_process_queue ctTm_process_queue), slTm_process_queue⟩)
    (cTm_process_queue : PySem.W.codeIn K cdTm_process_queue "Host.process_queue" = true)
    (kTm_process_queue : PySem.W.keepIn K (.ref fTm_process_queue) = true)
    (cg : PySem.W.specialIn K (.builtin "object.__class__") "__get__" = some (some (.builtin "getset_descriptor.__get__")))
    (ct : PySem.W.takesIn K (.builtin "object.__class__") = some true)
    (cl_C : PySem.W.clsIn K c_InvalidRelink = some cd_C)
    (tP_C : PySem.W.typeIn K (.ref c_InvalidRelink) = some (.type "type"))
    (cl_B : PySem.W.clsIn K c_Busy = some cd_B)
    (tP_B : PySem.W.typeIn K (.ref c_Busy) = some (.type "type"))
    (cl_D : PySem.W.clsIn K c_NotLinked = some cd_D)
    (tP_D : PySem.W.typeIn K (.ref c_NotLinked) = some (.type "type"))
    (bP_C : PySem.W.subIn K (.ref c_InvalidRelink) (.type "BaseException") = some true)
    (s_CC : PySem.W.subIn K (.ref c_InvalidRelink) (.ref c_InvalidRelink) = some true)
    (s_BC : PySem.W.subIn K (.ref c_Busy) (.ref c_InvalidRelink) = some false)
    (bP_B : PySem.W.subIn K (.ref c_Busy) (.type "BaseException") = some true)
    (s_BB : PySem.W.subIn K (.ref c_Busy) (.ref c_Busy) = some true)
    (s_DC : PySem.W.subIn K (.ref c_NotLinked) (.ref c_InvalidRelink) = some false)
    (s_DB : PySem.W.subIn K (.ref c_NotLinked) (.ref c_Busy) = some false)
    (bP_D : PySem.W.subIn K (.ref c_NotLinked) (.type "BaseException") = some true)
    (s_DD : PySem.W.subIn K (.ref c_NotLinked) (.ref c_NotLinked) = some true)
    (f_Cvalue : PySem.W.findIn K (.ref c_InvalidRelink) "value" = some none)
    (f_Bhost : PySem.W.findIn K (.ref c_Busy) "host" = some none)
    (f_Dhost : PySem.W.findIn K (.ref c_NotLinked) "host" = some none)
    (f_Dother : PySem.W.findIn K (.ref c_NotLinked) "other" = some none) :
    ∃ fd : FuncData, (∀ (s : Shared) (v : Value), BindsTo s fd ⟨[v], []⟩ [("_law_script", v)]) ∧ ∀ base : Heap, K.In base → base.Ns mainGlobals mg → FnG l.prog w K mg base CX0 15 fa fd ["_law_script"] (spLaw K) := by
  have e := hfa.symm.trans (PySem.W.mg_of X G a_law)
  cases e
  have F_is_integer_from := fun_mk (st := s_is_integer_from) l_is_integer_from co_is_integer_from k_is_integer_from
  have b_is_integer_from := F_is_integer_from.binds (ps := ["value", "least"]) fun _ _ _ _ _ _ us hl => match us, hl with | [_, _], _ => rfl
  have m_is_integer_from := PySem.W.mg_of X G a_is_integer_from
  have F_is_index := fun_mk (st := s_is_index) l_is_index co_is_index k_is_index
  have b_is_index := F_is_index.binds (ps := ["value", "size"]) fun _ _ _ _ _ _ us hl => match us, hl with | [_, _], _ => rfl
  have m_is_index := PySem.W.mg_of X G a_is_index
  have F_is_text_of := fun_mk (st := s_is_text_of) l_is_text_of co_is_text_of k_is_text_of
  have b_is_text_of := F_is_text_of.binds (ps := ["value", "characters", "longest"]) fun _ _ _ _ _ _ us hl => match us, hl with | [_, _, _], _ => rfl
  have m_is_text_of := PySem.W.mg_of X G a_is_text_of
  have F_is_host_name := fun_mk (st := s_is_host_name) l_is_host_name co_is_host_name k_is_host_name
  have b_is_host_name := F_is_host_name.binds (ps := ["value"]) fun _ _ _ _ _ _ us hl => match us, hl with | [_], _ => rfl
  have m_is_host_name := PySem.W.mg_of X G a_is_host_name
  have F_is_word := fun_mk (st := s_is_word) l_is_word co_is_word k_is_word
  have b_is_word := F_is_word.binds (ps := ["value"]) fun _ _ _ _ _ _ us hl => match us, hl with | [_], _ => rfl
  have m_is_word := PySem.W.mg_of X G a_is_word
  have F_is_relink_path := fun_mk (st := s_is_relink_path) l_is_relink_path co_is_relink_path k_is_relink_path
  have b_is_relink_path := F_is_relink_path.binds (ps := ["value"]) fun _ _ _ _ _ _ us hl => match us, hl with | [_], _ => rfl
  have m_is_relink_path := PySem.W.mg_of X G a_is_relink_path
  have F_is_cut_of := fun_mk (st := s_is_cut_of) l_is_cut_of co_is_cut_of k_is_cut_of
  have b_is_cut_of := F_is_cut_of.binds (ps := ["path", "value"]) fun _ _ _ _ _ _ us hl => match us, hl with | [_, _], _ => rfl
  have m_is_cut_of := PySem.W.mg_of X G a_is_cut_of
  have F_is_relink := fun_mk (st := s_is_relink) l_is_relink co_is_relink k_is_relink
  have b_is_relink := F_is_relink.binds (ps := ["value"]) fun _ _ _ _ _ _ us hl => match us, hl with | [_], _ => rfl
  have m_is_relink := PySem.W.mg_of X G a_is_relink
  have F_check_relink := fun_mk (st := s_check_relink) l_check_relink co_check_relink k_check_relink
  have b_check_relink := F_check_relink.binds (ps := ["value"]) fun _ _ _ _ _ _ us hl => match us, hl with | [_], _ => rfl
  have m_check_relink := PySem.W.mg_of X G a_check_relink
  have F_position := fun_mk (st := s_position) l_position co_position k_position
  have b_position := F_position.binds (ps := ["relink", "host"]) fun _ _ _ _ _ _ us hl => match us, hl with | [_, _], _ => rfl
  have m_position := PySem.W.mg_of X G a_position
  have F_are_message_parts := fun_mk (st := s_are_message_parts) l_are_message_parts co_are_message_parts k_are_message_parts
  have b_are_message_parts := F_are_message_parts.binds (ps := ["parts"]) fun _ _ _ _ _ _ us hl => match us, hl with | [_], _ => rfl
  have m_are_message_parts := PySem.W.mg_of X G a_are_message_parts
  have F_is_control_kind := fun_mk (st := s_is_control_kind) l_is_control_kind co_is_control_kind k_is_control_kind
  have b_is_control_kind := F_is_control_kind.binds (ps := ["value"]) fun _ _ _ _ _ _ us hl => match us, hl with | [_], _ => rfl
  have m_is_control_kind := PySem.W.mg_of X G a_is_control_kind
  have F_is_item := fun_mk (st := s_is_item) l_is_item co_is_item k_is_item
  have b_is_item := F_is_item.binds (ps := ["value"]) fun _ _ _ _ _ _ us hl => match us, hl with | [_], _ => rfl
  have m_is_item := PySem.W.mg_of X G a_is_item
  have F_check_item := fun_mk (st := s_check_item) l_check_item co_check_item k_check_item
  have b_check_item := F_check_item.binds (ps := ["value"]) fun _ _ _ _ _ _ us hl => match us, hl with | [_], _ => rfl
  have m_check_item := PySem.W.mg_of X G a_check_item
  have F_is_received := fun_mk (st := s_is_received) l_is_received co_is_received k_is_received
  have b_is_received := F_is_received.binds (ps := ["relink", "at", "kind"]) fun _ _ _ _ _ _ us hl => match us, hl with | [_, _, _], _ => rfl
  have m_is_received := PySem.W.mg_of X G a_is_received
  have F_link_cut_behind := fun_mk (st := s_link_cut_behind) l_link_cut_behind co_link_cut_behind k_link_cut_behind
  have b_link_cut_behind := F_link_cut_behind.binds (ps := ["relink", "at"]) fun _ _ _ _ _ _ us hl => match us, hl with | [_, _], _ => rfl
  have m_link_cut_behind := PySem.W.mg_of X G a_link_cut_behind
  have F_ask_step := fun_mk (st := s_ask_step) l_ask_step co_ask_step k_ask_step
  have b_ask_step := F_ask_step.binds (ps := ["relink", "at"]) fun _ _ _ _ _ _ us hl => match us, hl with | [_, _], _ => rfl
  have m_ask_step := PySem.W.mg_of X G a_ask_step
  have F_no_step := fun_mk (st := s_no_step) l_no_step co_no_step k_no_step
  have b_no_step := F_no_step.binds (ps := ["relink", "at"]) fun _ _ _ _ _ _ us hl => match us, hl with | [_, _], _ => rfl
  have m_no_step := PySem.W.mg_of X G a_no_step
  have F_first_yes_step := fun_mk (st := s_first_yes_step) l_first_yes_step co_first_yes_step k_first_yes_step
  have b_first_yes_step := F_first_yes_step.binds (ps := ["relink"]) fun _ _ _ _ _ _ us hl => match us, hl with | [_], _ => rfl
  have m_first_yes_step := PySem.W.mg_of X G a_first_yes_step
  have F_yes_step := fun_mk (st := s_yes_step) l_yes_step co_yes_step k_yes_step
  have b_yes_step := F_yes_step.binds (ps := ["relink", "at"]) fun _ _ _ _ _ _ us hl => match us, hl with | [_, _], _ => rfl
  have m_yes_step := PySem.W.mg_of X G a_yes_step
  have F_go_step := fun_mk (st := s_go_step) l_go_step co_go_step k_go_step
  have b_go_step := F_go_step.binds (ps := ["relink", "at"]) fun _ _ _ _ _ _ us hl => match us, hl with | [_, _], _ => rfl
  have m_go_step := PySem.W.mg_of X G a_go_step
  have F_back_step := fun_mk (st := s_back_step) l_back_step co_back_step k_back_step
  have b_back_step := F_back_step.binds (ps := ["relink", "at"]) fun _ _ _ _ _ _ us hl => match us, hl with | [_, _], _ => rfl
  have m_back_step := PySem.W.mg_of X G a_back_step
  have F_control_step := fun_mk (st := s_control_step) l_control_step co_control_step k_control_step
  have b_control_step := F_control_step.binds (ps := ["relink", "host", "kind"]) fun _ _ _ _ _ _ us hl => match us, hl with | [_, _, _], _ => rfl
  have m_control_step := PySem.W.mg_of X G a_control_step
  have F_law_pot := fun_mk (st := s_law_pot) l_law_pot co_law_pot k_law_pot
  have b_law_pot := F_law_pot.binds (ps := ["_law_script", "_law_k"]) fun _ _ _ _ _ _ us hl => match us, hl with | [_, _], _ => rfl
  have m_law_pot := PySem.W.mg_of X G a_law_pot
  have F_law_draw := fun_mk (st := s_law_draw) l_law_draw co_law_draw k_law_draw
  have b_law_draw := F_law_draw.binds (ps := ["_law_pot_here", "_law_count"]) fun _ _ _ _ _ _ us hl => match us, hl with | [_, _], _ => rfl
  have m_law_draw := PySem.W.mg_of X G a_law_draw
  have F_law_choose := fun_mk (st := s_law_choose) l_law_choose co_law_choose k_law_choose
  have b_law_choose := F_law_choose.binds (ps := ["_law_pot_here", "_law_values"]) fun _ _ _ _ _ _ us hl => match us, hl with | [_, _], _ => rfl
  have m_law_choose := PySem.W.mg_of X G a_law_choose
  have F_law_name := fun_mk (st := s_law_name) l_law_name co_law_name k_law_name
  have b_law_name := F_law_name.binds (ps := ["_law_pot_here", "_law_used"]) fun _ _ _ _ _ _ us hl => match us, hl with | [_, _], _ => rfl
  have m_law_name := PySem.W.mg_of X G a_law_name
  have F_law_new := fun_mk (st := s_law_new) l_law_new co_law_new k_law_new
  have b_law_new := F_law_new.binds (ps := ["_law_name_here", "_law_linked_here", "_law_logged"]) fun _ _ _ _ _ _ us hl => match us, hl with | [_, _, _], _ => rfl
  have m_law_new := PySem.W.mg_of X G a_law_new
  have F_law_awaited := fun_mk (st := s_law_awaited) l_law_awaited co_law_awaited k_law_awaited
  have b_law_awaited := F_law_awaited.binds (ps := ["_law_model"]) fun _ _ _ _ _ _ us hl => match us, hl with | [_], _ => rfl
  have m_law_awaited := PySem.W.mg_of X G a_law_awaited
  have F_law_unlinked := fun_mk (st := s_law_unlinked) l_law_unlinked co_law_unlinked k_law_unlinked
  have b_law_unlinked := F_law_unlinked.binds (ps := ["_law_model", "_law_other"]) fun _ _ _ _ _ _ us hl => match us, hl with | [_, _], _ => rfl
  have m_law_unlinked := PySem.W.mg_of X G a_law_unlinked
  have F_law_linked := fun_mk (st := s_law_linked) l_law_linked co_law_linked k_law_linked
  have b_law_linked := F_law_linked.binds (ps := ["_law_model", "_law_other"]) fun _ _ _ _ _ _ us hl => match us, hl with | [_, _], _ => rfl
  have m_law_linked := PySem.W.mg_of X G a_law_linked
  have F_law_spread := fun_mk (st := s_law_spread) l_law_spread co_law_spread k_law_spread
  have b_law_spread := F_law_spread.binds (ps := ["_law_model", "_law_message", "_law_source", "_law_bit_here"]) fun _ _ _ _ _ _ us hl => match us, hl with | [_, _, _, _], _ => rfl
  have m_law_spread := PySem.W.mg_of X G a_law_spread
  have F_law_freed := fun_mk (st := s_law_freed) l_law_freed co_law_freed k_law_freed
  have b_law_freed := F_law_freed.binds (ps := ["_law_model"]) fun _ _ _ _ _ _ us hl => match us, hl with | [_], _ => rfl
  have m_law_freed := PySem.W.mg_of X G a_law_freed
  have F_law_finished := fun_mk (st := s_law_finished) l_law_finished co_law_finished k_law_finished
  have b_law_finished := F_law_finished.binds (ps := ["_law_model", "_law_outcome"]) fun _ _ _ _ _ _ us hl => match us, hl with | [_, _], _ => rfl
  have m_law_finished := PySem.W.mg_of X G a_law_finished
  have F_law_refused := fun_mk (st := s_law_refused) l_law_refused co_law_refused k_law_refused
  have b_law_refused := F_law_refused.binds (ps := ["_law_model"]) fun _ _ _ _ _ _ us hl => match us, hl with | [_], _ => rfl
  have m_law_refused := PySem.W.mg_of X G a_law_refused
  have F_law_agreed := fun_mk (st := s_law_agreed) l_law_agreed co_law_agreed k_law_agreed
  have b_law_agreed := F_law_agreed.binds (ps := ["_law_model", "_law_item"]) fun _ _ _ _ _ _ us hl => match us, hl with | [_, _], _ => rfl
  have m_law_agreed := PySem.W.mg_of X G a_law_agreed
  have F_law_gone_on := fun_mk (st := s_law_gone_on) l_law_gone_on co_law_gone_on k_law_gone_on
  have b_law_gone_on := F_law_gone_on.binds (ps := ["_law_model", "_law_item"]) fun _ _ _ _ _ _ us hl => match us, hl with | [_, _], _ => rfl
  have m_law_gone_on := PySem.W.mg_of X G a_law_gone_on
  have F_law_asked := fun_mk (st := s_law_asked) l_law_asked co_law_asked k_law_asked
  have b_law_asked := F_law_asked.binds (ps := ["_law_model", "_law_source", "_law_item"]) fun _ _ _ _ _ _ us hl => match us, hl with | [_, _, _], _ => rfl
  have m_law_asked := PySem.W.mg_of X G a_law_asked
  have F_law_received := fun_mk (st := s_law_received) l_law_received co_law_received k_law_received
  have b_law_received := F_law_received.binds (ps := ["_law_model", "_law_source", "_law_item"]) fun _ _ _ _ _ _ us hl => match us, hl with | [_, _, _], _ => rfl
  have m_law_received := PySem.W.mg_of X G a_law_received
  have F_law_started := fun_mk (st := s_law_started) l_law_started co_law_started k_law_started
  have b_law_started := F_law_started.binds (ps := ["_law_model", "_law_path_here", "_law_cut"]) fun _ _ _ _ _ _ us hl => match us, hl with | [_, _, _], _ => rfl
  have m_law_started := PySem.W.mg_of X G a_law_started
  have F_law_shown := fun_mk (st := s_law_shown) l_law_shown co_law_shown k_law_shown
  have b_law_shown := F_law_shown.binds (ps := ["_law_host"]) fun _ _ _ _ _ _ us hl => match us, hl with | [_], _ => rfl
  have m_law_shown := PySem.W.mg_of X G a_law_shown
  have F_law_agrees := fun_mk (st := s_law_agrees) l_law_agrees co_law_agrees k_law_agrees
  have b_law_agrees := F_law_agrees.binds (ps := ["_law_host", "_law_model"]) fun _ _ _ _ _ _ us hl => match us, hl with | [_, _], _ => rfl
  have m_law_agrees := PySem.W.mg_of X G a_law_agrees
  have F_law_path := fun_mk (st := s_law_path) l_law_path co_law_path k_law_path
  have b_law_path := F_law_path.binds (ps := ["_law_pot_here", "_law_model", "_law_others"]) fun _ _ _ _ _ _ us hl => match us, hl with | [_, _, _], _ => rfl
  have m_law_path := PySem.W.mg_of X G a_law_path
  have F_law_ask_due := fun_mk (st := s_law_ask_due) l_law_ask_due co_law_ask_due k_law_ask_due
  have b_law_ask_due := F_law_ask_due.binds (ps := ["_law_model", "_law_path_here", "_law_cut"]) fun _ _ _ _ _ _ us hl => match us, hl with | [_, _, _], _ => rfl
  have m_law_ask_due := PySem.W.mg_of X G a_law_ask_due
  have F_law_ask_told := fun_mk (st := s_law_ask_told) l_law_ask_told co_law_ask_told k_law_ask_told
  have b_law_ask_told := F_law_ask_told.binds (ps := ["_law_host", "_law_path_here", "_law_cut"]) fun _ _ _ _ _ _ us hl => match us, hl with | [_, _, _], _ => rfl
  have m_law_ask_told := PySem.W.mg_of X G a_law_ask_told
  have F_law_received_right := fun_mk (st := s_law_received_right) l_law_received_right co_law_received_right k_law_received_right
  have b_law_received_right := F_law_received_right.binds (ps := ["_law_pot_here", "_law_host", "_law_model", "_law_path_here", "_law_cut"]) fun _ _ _ _ _ _ us hl => match us, hl with | [_, _, _, _, _], _ => rfl
  have m_law_received_right := PySem.W.mg_of X G a_law_received_right
  have F_law_odd_right := fun_mk (st := s_law_odd_right) l_law_odd_right co_law_odd_right k_law_odd_right
  have b_law_odd_right := F_law_odd_right.binds (ps := ["_law_pot_here", "_law_host", "_law_model", "_law_path_here"]) fun _ _ _ _ _ _ us hl => match us, hl with | [_, _, _, _], _ => rfl
  have m_law_odd_right := PySem.W.mg_of X G a_law_odd_right
  have F_law_right := fun_mk (st := s_law_right) l_law_right co_law_right k_law_right
  have b_law_right := F_law_right.binds (ps := ["_law_pot_here"]) fun _ _ _ _ _ _ us hl => match us, hl with | [_], _ => rfl
  have m_law_right := PySem.W.mg_of X G a_law_right
  have F_law := fun_mk (st := s_law) l_law co_law k_law
  have b_law := F_law.binds (ps := ["_law_script"]) fun _ _ _ _ _ _ us hl => match us, hl with | [_], _ => rfl
  have m_law := PySem.W.mg_of X G a_law
  have w_LETTERS := PySem.W.mg_of X G v_LETTERS
  have w_DIGITS := PySem.W.mg_of X G v_DIGITS
  have w_LONGEST_NAME := PySem.W.mg_of X G v_LONGEST_NAME
  have w_LONGEST_WORD := PySem.W.mg_of X G v_LONGEST_WORD
  have w_SHORTEST_PATH := PySem.W.mg_of X G v_SHORTEST_PATH
  have w_MESSAGE := PySem.W.mg_of X G v_MESSAGE
  have w_BYE := PySem.W.mg_of X G v_BYE
  have w_BITS := PySem.W.mg_of X G v_BITS
  have Y : Bn mg := ⟨PySem.W.mg_none_of X G z_len, PySem.W.mg_none_of X G z_range, PySem.W.mg_none_of X G z_abs, PySem.W.mg_none_of X G z_max, PySem.W.mg_none_of X G z_min, PySem.W.mg_none_of X G z_divmod, PySem.W.mg_none_of X G z_isinstance, PySem.W.mg_none_of X G z_str, PySem.W.mg_none_of X G z_int, PySem.W.mg_none_of X G z_bool, PySem.W.mg_none_of X G z_tuple, PySem.W.mg_none_of X G z_list, PySem.W.mg_none_of X G z_set, PySem.W.mg_none_of X G z_dict, PySem.W.mg_none_of X G z_all, PySem.W.mg_none_of X G z_any, PySem.W.mg_none_of X G z_repr, PySem.W.mg_none_of X G z_sorted, PySem.W.mg_none_of X G z_enumerate, PySem.W.mg_none_of X G z_zip⟩
  refine ⟨PySem.W.fnOf "law" "law" (defArgs s_law) (defBody s_law) (defScope s_law) .none kV_law dc_law pm_law an_law cd_law ct_law, fun s v => .of_eq rfl, fun base _ _ => ?_⟩
  have R_InvalidName := S_InvalidName.2 l.prog w mg base (PySem.W.mg_of X G e_InvalidName)
  have R_InvalidRelink := S_InvalidRelink.2 l.prog w mg base (PySem.W.mg_of X G e_InvalidRelink)
  have R_InvalidItem := S_InvalidItem.2 l.prog w mg base (PySem.W.mg_of X G e_InvalidItem)
  have R_InvalidStep := S_InvalidStep.2 l.prog w mg base (PySem.W.mg_of X G e_InvalidStep)
  have R_UnknownHost := S_UnknownHost.2 l.prog w mg base (PySem.W.mg_of X G e_UnknownHost)
  have R_Busy := S_Busy.2 l.prog w mg base (PySem.W.mg_of X G e_Busy)
  have R_NotLinked := S_NotLinked.2 l.prog w mg base (PySem.W.mg_of X G e_NotLinked)
  have TC : TxtC mg := ⟨⟨_, w_LETTERS⟩, ⟨_, w_LONGEST_NAME⟩⟩
  have TW : TxtW mg := ⟨⟨_, w_DIGITS⟩, ⟨_, w_LONGEST_WORD⟩⟩
  have TI : TxtI mg := ⟨⟨_, w_MESSAGE⟩, ⟨_, w_BYE⟩, ⟨_, w_BITS⟩⟩
  have TK : TxtK K mg := ⟨ck, o_ck, PySem.W.mg_of X G v_CK, l_CK, q_CK⟩
  have TS : TxtS K w mg f_ask_step f_no_step f_yes_step f_go_step f_back_step := ⟨⟨sa, PySem.W.mg_of X G v_ST, ⟨es_st, n_st, _, l_ST, q_ST, d_ask, rfl⟩, ⟨es_st, n_st, _, l_ST, q_ST, d_no, rfl⟩, ⟨es_st, n_st, _, l_ST, q_ST, d_yes, rfl⟩, ⟨es_st, n_st, _, l_ST, q_ST, d_go, rfl⟩, ⟨es_st, n_st, _, l_ST, q_ST, d_back, rfl⟩⟩, nd5, m_ask_step, m_no_step, m_yes_step, m_go_step, m_back_step⟩
  have TCh : Ch K c_Host := ⟨⟨T_pg, T_hd, T_po, T_sa⟩, T_nown_name, T_nlinked, T_nlogged, T_njoined, T_nstage, T_nqueued, T_nfinished⟩
  have gT := PySem.W.mg_of X G e_Host
  have XX : X42 K c_InvalidRelink c_Busy c_NotLinked := ⟨S_InvalidRelink.1, S_Busy.1, S_NotLinked.1, (exm_of bP_C cl_C tP_C s_CC), (exm_of bP_C cl_C tP_C s_BC), (exm_of bP_B cl_B tP_B s_BB), (exm_of bP_C cl_C tP_C s_DC), (exm_of bP_B cl_B tP_B s_DB), (exm_of bP_D cl_D tP_D s_DD), f_Cvalue, f_Bhost, f_Dhost, f_Dother⟩
  have FTm_init := fun_mk (st := m_init) lTm_init cTm_init kTm_init
  have MTm_init : Meth K c_Host "__init__" fTm_init := ⟨aTm_init, iTm_init, kTm_init⟩
  have FTm_name := fun_mk (st := m_name) lTm_name cTm_name kTm_name
  have bTm_name := FTm_name.binds (ps := ["self"]) fun _ _ _ _ _ _ us hl => match us, hl with | [_], _ => rfl
  have MTm_name : Meth K c_Host "name" fTm_name := ⟨aTm_name, iTm_name, kTm_name⟩
  have FTm_log := fun_mk (st := m_log) lTm_log cTm_log kTm_log
  have bTm_log := FTm_log.binds (ps := ["self"]) fun _ _ _ _ _ _ us hl => match us, hl with | [_], _ => rfl
  have MTm_log : Meth K c_Host "log" fTm_log := ⟨aTm_log, iTm_log, kTm_log⟩
  have FTm_links := fun_mk (st := m_links) lTm_links cTm_links kTm_links
  have bTm_links := FTm_links.binds (ps := ["self"]) fun _ _ _ _ _ _ us hl => match us, hl with | [_], _ => rfl
  have MTm_links : Meth K c_Host "links" fTm_links := ⟨aTm_links, iTm_links, kTm_links⟩
  have FTm_answers := fun_mk (st := m_answers) lTm_answers cTm_answers kTm_answers
  have bTm_answers := FTm_answers.binds (ps := ["self"]) fun _ _ _ _ _ _ us hl => match us, hl with | [_], _ => rfl
  have MTm_answers : Meth K c_Host "answers" fTm_answers := ⟨aTm_answers, iTm_answers, kTm_answers⟩
  have FTm_relink := fun_mk (st := m_relink) lTm_relink cTm_relink kTm_relink
  have bTm_relink := FTm_relink.binds (ps := ["self"]) fun _ _ _ _ _ _ us hl => match us, hl with | [_], _ => rfl
  have MTm_relink : Meth K c_Host "relink" fTm_relink := ⟨aTm_relink, iTm_relink, kTm_relink⟩
  have FTm_phase := fun_mk (st := m_phase) lTm_phase cTm_phase kTm_phase
  have bTm_phase := FTm_phase.binds (ps := ["self"]) fun _ _ _ _ _ _ us hl => match us, hl with | [_], _ => rfl
  have MTm_phase : Meth K c_Host "phase" fTm_phase := ⟨aTm_phase, iTm_phase, kTm_phase⟩
  have FTm_queue := fun_mk (st := m_queue) lTm_queue cTm_queue kTm_queue
  have bTm_queue := FTm_queue.binds (ps := ["self"]) fun _ _ _ _ _ _ us hl => match us, hl with | [_], _ => rfl
  have MTm_queue : Meth K c_Host "queue" fTm_queue := ⟨aTm_queue, iTm_queue, kTm_queue⟩
  have FTm_waits_for := fun_mk (st := m_waits_for) lTm_waits_for cTm_waits_for kTm_waits_for
  have bTm_waits_for := FTm_waits_for.binds (ps := ["self"]) fun _ _ _ _ _ _ us hl => match us, hl with | [_], _ => rfl
  have MTm_waits_for : Meth K c_Host "waits_for" fTm_waits_for := ⟨aTm_waits_for, iTm_waits_for, kTm_waits_for⟩
  have FTm_check_free := fun_mk (st := m_check_free) lTm_check_free cTm_check_free kTm_check_free
  have bTm_check_free := FTm_check_free.binds (ps := ["self"]) fun _ _ _ _ _ _ us hl => match us, hl with | [_], _ => rfl
  have MTm_check_free : Meth K c_Host "check_free" fTm_check_free := ⟨aTm_check_free, iTm_check_free, kTm_check_free⟩
  have FTm_ask := fun_mk (st := m_ask) lTm_ask cTm_ask kTm_ask
  have bTm_ask := FTm_ask.binds (ps := ["self", "path", "cut"]) fun _ _ _ _ _ _ us hl => match us, hl with | [_, _, _], _ => rfl
  have MTm_ask : Meth K c_Host "ask" fTm_ask := ⟨aTm_ask, iTm_ask, kTm_ask⟩
  have FTm_receive := fun_mk (st := m_receive) lTm_receive cTm_receive kTm_receive
  have bTm_receive := FTm_receive.binds (ps := ["self", "source", "item"]) fun _ _ _ _ _ _ us hl => match us, hl with | [_, _, _], _ => rfl
  have MTm_receive : Meth K c_Host "receive" fTm_receive := ⟨aTm_receive, iTm_receive, kTm_receive⟩
  have FTm_join_to := fun_mk (st := m_join_to) lTm_join_to cTm_join_to kTm_join_to
  have bTm_join_to := FTm_join_to.binds (ps := ["self", "other"]) fun _ _ _ _ _ _ us hl => match us, hl with | [_, _], _ => rfl
  have MTm_join_to : Meth K c_Host "join_to" fTm_join_to := ⟨aTm_join_to, iTm_join_to, kTm_join_to⟩
  have FTm_part_from := fun_mk (st := m_part_from) lTm_part_from cTm_part_from kTm_part_from
  have bTm_part_from := FTm_part_from.binds (ps := ["self", "other"]) fun _ _ _ _ _ _ us hl => match us, hl with | [_, _], _ => rfl
  have MTm_part_from : Meth K c_Host "part_from" fTm_part_from := ⟨aTm_part_from, iTm_part_from, kTm_part_from⟩
  obtain ⟨eTm_log_and_forward, nTm_log_and_forward, qTm_log_and_forward⟩ := dqTm_log_and_forward
  have FTm_log_and_forward : FunD K "log_and_forward" "Host.log_and_forward" (defArgs m_log_and_forward) (defBody m_log_and_forward) (defScope m_log_and_forward) [V.non, V.int 0] [] fTm_log_and_forward (PySem.W.fnOf "log_and_forward" "Host.log_and_forward" (defArgs m_log_and_forward) (defBody m_log_and_forward) (defScope m_log_and_forward) (.ref TTm_log_and_forward) kVTm_log_and_forward dcTm_log_and_forward pmTm_log_and_forward anTm_log_and_forward cdTm_log_and_forward ctTm_log_and_forward) := ⟨⟨_, _, _, _, _, _, _, _, _, _, rfl, lTm_log_and_forward, cTm_log_and_forward, .inr ⟨(fun z => nomatch z), TTm_log_and_forward, oTTm_log_and_forward, [Value.none, Value.int 0 eTm_log_and_forward], nTm_log_and_forward, rfl, dlTm_log_and_forward, qTm_log_and_forward, (.cons (show RelV V.non Value.none from rfl) (.cons (show RelV (V.int 0) (Value.int 0 eTm_log_and_forward) from ⟨_, rfl⟩) .nil))⟩, .inl rfl⟩, kTm_log_and_forward⟩
  have bTm_log_and_forward : Binds K (PySem.W.fnOf "log_and_forward" "Host.log_and_forward" (defArgs m_log_and_forward) (defBody m_log_and_forward) (defScope m_log_and_forward) (.ref TTm_log_and_forward) kVTm_log_and_forward dcTm_log_and_forward pmTm_log_and_forward anTm_log_and_forward cdTm_log_and_forward ctTm_log_and_forward) ["self", "writer", "word", "source", "bit"] [] := by
    obtain ⟨ds, hv, hb⟩ := FTm_log_and_forward.binds1 (ps := ["self", "writer", "word", "source", "bit"]) 5 2 (fun z => nomatch z) rfl (fun T kV doc pm an cdv ct us its h1 h2 => match us, its, h1, h2 with | [_, _, _, _, _], [_, _], _, _ => ⟨_, rfl, rfl⟩)
    cases hv
    exact hb
  have MTm_log_and_forward : Meth K c_Host "log_and_forward" fTm_log_and_forward := ⟨aTm_log_and_forward, iTm_log_and_forward, kTm_log_and_forward⟩
  have FTm_accept := fun_mk (st := m_accept) lTm_accept cTm_accept kTm_accept
  have bTm_accept := FTm_accept.binds (ps := ["self", "source", "item"]) fun _ _ _ _ _ _ us hl => match us, hl with | [_, _, _], _ => rfl
  have MTm_accept : Meth K c_Host "accept" fTm_accept := ⟨aTm_accept, iTm_accept, kTm_accept⟩
  have FTm_accept_bye := fun_mk (st := m_accept_bye) lTm_accept_bye cTm_accept_bye kTm_accept_bye
  have bTm_accept_bye := FTm_accept_bye.binds (ps := ["self", "source"]) fun _ _ _ _ _ _ us hl => match us, hl with | [_, _], _ => rfl
  have MTm_accept_bye : Meth K c_Host "accept_bye" fTm_accept_bye := ⟨aTm_accept_bye, iTm_accept_bye, kTm_accept_bye⟩
  have FTm_can_join := fun_mk (st := m_can_join) lTm_can_join cTm_can_join kTm_can_join
  have bTm_can_join := FTm_can_join.binds (ps := ["self", "relink"]) fun _ _ _ _ _ _ us hl => match us, hl with | [_, _], _ => rfl
  have MTm_can_join : Meth K c_Host "can_join" fTm_can_join := ⟨aTm_can_join, iTm_can_join, kTm_can_join⟩
  have FTm_next_host := fun_mk (st := m_next_host) lTm_next_host cTm_next_host kTm_next_host
  have bTm_next_host := FTm_next_host.binds (ps := ["self", "relink"]) fun _ _ _ _ _ _ us hl => match us, hl with | [_, _], _ => rfl
  have MTm_next_host : Meth K c_Host "next_host" fTm_next_host := ⟨aTm_next_host, iTm_next_host, kTm_next_host⟩
  have FTm_act := fun_mk (st := m_act) lTm_act cTm_act kTm_act
  have bTm_act := FTm_act.binds (ps := ["self", "relink", "kind"]) fun _ _ _ _ _ _ us hl => match us, hl with | [_, _, _], _ => rfl
  have MTm_act : Meth K c_Host "act" fTm_act := ⟨aTm_act, iTm_act, kTm_act⟩
  have FTm_process_queue := fun_mk (st := m_process_queue) lTm_process_queue cTm_process_queue kTm_process_queue
  have bTm_process_queue := FTm_process_queue.binds (ps := ["self", "awaited"]) fun _ _ _ _ _ _ us hl => match us, hl with | [_, _], _ => rfl
  have MTm_process_queue : Meth K c_Host "process_queue" fTm_process_queue := ⟨aTm_process_queue, iTm_process_queue, kTm_process_queue⟩
  have MKT : Mk K c_Host fTm_init := ⟨T_mk, aTm_init, iTm_init, T_kc⟩
  have G_is_integer_from := (⟨⟨_, _, m_is_integer_from, k_is_integer_from, b_is_integer_from, ok_from F_is_integer_from Y⟩⟩ : Fk l.prog w K mg base _ _ "is_integer_from" _ _)
  have G_is_index := (⟨⟨_, _, m_is_index, k_is_index, b_is_index, ok_idx F_is_index G_is_integer_from⟩⟩ : Fk l.prog w K mg base _ _ "is_index" _ _)
  have G_is_text_of := (⟨⟨_, _, m_is_text_of, k_is_text_of, b_is_text_of, ok_text F_is_text_of Y⟩⟩ : Fk l.prog w K mg base _ _ "is_text_of" _ _)
  have G_is_host_name := (⟨⟨_, _, m_is_host_name, k_is_host_name, b_is_host_name, ok_host F_is_host_name TC G_is_text_of⟩⟩ : Fk l.prog w K mg base _ _ "is_host_name" _ _)
  have G_is_word := (⟨⟨_, _, m_is_word, k_is_word, b_is_word, ok_word F_is_word TC TW G_is_text_of⟩⟩ : Fk l.prog w K mg base _ _ "is_word" _ _)
  have G_is_relink_path := (⟨⟨_, _, m_is_relink_path, k_is_relink_path, b_is_relink_path, ok_path F_is_relink_path Y ⟨_, w_SHORTEST_PATH⟩ G_is_host_name⟩⟩ : Fk l.prog w K mg base _ _ "is_relink_path" _ _)
  have G_is_cut_of := (⟨⟨_, _, m_is_cut_of, k_is_cut_of, b_is_cut_of, ok_cut F_is_cut_of Y G_is_index⟩⟩ : Fk l.prog w K mg base _ _ "is_cut_of" _ _)
  have G_is_relink := (⟨⟨_, _, m_is_relink, k_is_relink, b_is_relink, ok_rel F_is_relink Y G_is_relink_path G_is_cut_of⟩⟩ : Fk l.prog w K mg base _ _ "is_relink" _ _)
  have G_check_relink := (⟨⟨_, _, m_check_relink, k_check_relink, b_check_relink, ok_chk F_check_relink R_InvalidRelink G_is_relink⟩⟩ : Fk l.prog w K mg base _ _ "check_relink" _ _)
  have G_position := (⟨⟨_, _, m_position, k_position, b_position, ok_pos F_position R_UnknownHost G_check_relink G_is_host_name⟩⟩ : Fk l.prog w K mg base _ _ "position" _ _)
  have G_are_message_parts := (⟨⟨_, _, m_are_message_parts, k_are_message_parts, b_are_message_parts, ok_msg F_are_message_parts Y TI G_is_host_name G_is_word G_is_index⟩⟩ : Fk l.prog w K mg base _ _ "are_message_parts" _ _)
  have G_is_control_kind := (⟨⟨_, _, m_is_control_kind, k_is_control_kind, b_is_control_kind, ok_kind F_is_control_kind Y TK⟩⟩ : Fk l.prog w K mg base _ _ "is_control_kind" _ _)
  have G_is_item := (⟨⟨_, _, m_is_item, k_is_item, b_is_item, ok_item F_is_item Y TI G_are_message_parts G_is_control_kind G_is_relink⟩⟩ : Fk l.prog w K mg base _ _ "is_item" _ _)
  have G_check_item := (⟨⟨_, _, m_check_item, k_check_item, b_check_item, ok_chkI F_check_item R_InvalidItem G_is_item⟩⟩ : Fk l.prog w K mg base _ _ "check_item" _ _)
  have G_is_received := (⟨⟨_, _, m_is_received, k_is_received, b_is_received, ok_rcv F_is_received Y⟩⟩ : Fk l.prog w K mg base _ _ "is_received" _ _)
  have G_link_cut_behind := (⟨⟨_, _, m_link_cut_behind, k_link_cut_behind, b_link_cut_behind, ok_behind F_link_cut_behind Y⟩⟩ : Fk l.prog w K mg base _ _ "link_cut_behind" _ _)
  have G_ask_step := (⟨⟨_, _, m_ask_step, k_ask_step, b_ask_step, ok_askS F_ask_step Y G_link_cut_behind⟩⟩ : Fk l.prog w K mg base _ _ "ask_step" _ _)
  have G_no_step := (⟨⟨_, _, m_no_step, k_no_step, b_no_step, ok_noS F_no_step Y⟩⟩ : Fk l.prog w K mg base _ _ "no_step" _ _)
  have G_first_yes_step := (⟨⟨_, _, m_first_yes_step, k_first_yes_step, b_first_yes_step, ok_firstS F_first_yes_step Y⟩⟩ : Fk l.prog w K mg base _ _ "first_yes_step" _ _)
  have G_yes_step := (⟨⟨_, _, m_yes_step, k_yes_step, b_yes_step, ok_yesS F_yes_step Y G_first_yes_step G_link_cut_behind⟩⟩ : Fk l.prog w K mg base _ _ "yes_step" _ _)
  have G_go_step := (⟨⟨_, _, m_go_step, k_go_step, b_go_step, ok_goS F_go_step Y⟩⟩ : Fk l.prog w K mg base _ _ "go_step" _ _)
  have G_back_step := (⟨⟨_, _, m_back_step, k_back_step, b_back_step, ok_backS F_back_step Y⟩⟩ : Fk l.prog w K mg base _ _ "back_step" _ _)
  have G_control_step := (⟨⟨_, _, m_control_step, k_control_step, b_control_step, ok_ctl F_control_step TS R_InvalidStep G_position G_is_control_kind G_is_received G_ask_step G_no_step G_yes_step G_go_step G_back_step⟩⟩ : Fk l.prog w K mg base _ _ "control_step" _ _)
  have OKI := ok_hinit (C := c_Host) (P := l.prog) (w := w) (base := base) FTm_init Y TCh
  have MIH : MkH l.prog w K mg base c_Host := ⟨gT, ⟨_, _, _, MKT, kbn_fwd FTm_init (ps := ["self", "name", "links", "log"]) (ks := ["links", "log"]) (n := 2) (fun _ _ _ _ _ _ us ws h1 h2 => match us, ws, h1, h2 with | [_, _], [_, _], _, _ => rfl), OKI⟩⟩
  have M_name := (⟨⟨_, _, MTm_name, bTm_name, ok_name_ (C := c_Host) (P := l.prog) (w := w) (base := base) FTm_name TCh⟩⟩ : Fm l.prog w K mg base _ _ c_Host "name" _ _)
  have M_log := (⟨⟨_, _, MTm_log, bTm_log, ok_log_ (C := c_Host) (P := l.prog) (w := w) (base := base) FTm_log Y TCh⟩⟩ : Fm l.prog w K mg base _ _ c_Host "log" _ _)
  have M_links := (⟨⟨_, _, MTm_links, bTm_links, ok_links_ (C := c_Host) (P := l.prog) (w := w) (base := base) FTm_links Y TCh⟩⟩ : Fm l.prog w K mg base _ _ c_Host "links" _ _)
  have M_answers := (⟨⟨_, _, MTm_answers, bTm_answers, ok_answers_ (C := c_Host) (P := l.prog) (w := w) (base := base) FTm_answers Y TCh⟩⟩ : Fm l.prog w K mg base _ _ c_Host "answers" _ _)
  have M_relink := (⟨⟨_, _, MTm_relink, bTm_relink, ok_relink_ (C := c_Host) (P := l.prog) (w := w) (base := base) FTm_relink TCh⟩⟩ : Fm l.prog w K mg base _ _ c_Host "relink" _ _)
  have M_phase := (⟨⟨_, _, MTm_phase, bTm_phase, ok_phase_ (C := c_Host) (P := l.prog) (w := w) (base := base) FTm_phase TCh⟩⟩ : Fm l.prog w K mg base _ _ c_Host "phase" _ _)
  have M_queue := (⟨⟨_, _, MTm_queue, bTm_queue, ok_queue_ (C := c_Host) (P := l.prog) (w := w) (base := base) FTm_queue Y TCh⟩⟩ : Fm l.prog w K mg base _ _ c_Host "queue" _ _)
  have M_check_free := (⟨⟨_, _, MTm_check_free, bTm_check_free, ok_cf (C := c_Host) (P := l.prog) (w := w) (base := base) FTm_check_free TCh R_Busy⟩⟩ : Fm l.prog w K mg base _ _ c_Host "check_free" _ _)
  have M_join_to := (⟨⟨_, _, MTm_join_to, bTm_join_to, ok_join (C := c_Host) (P := l.prog) (w := w) (base := base) FTm_join_to Y TCh⟩⟩ : Fm l.prog w K mg base _ _ c_Host "join_to" _ _)
  have M_part_from := (⟨⟨_, _, MTm_part_from, bTm_part_from, ok_part (C := c_Host) (P := l.prog) (w := w) (base := base) FTm_part_from TCh⟩⟩ : Fm l.prog w K mg base _ _ c_Host "part_from" _ _)
  have M_waits_for := (⟨⟨_, _, MTm_waits_for, bTm_waits_for, ok_wait (C := c_Host) (P := l.prog) (w := w) (base := base) FTm_waits_for TCh⟩⟩ : Fm l.prog w K mg base _ _ c_Host "waits_for" _ _)
  have M_next_host := (⟨⟨_, _, MTm_next_host, bTm_next_host, ok_next (C := c_Host) (P := l.prog) (w := w) (base := base) FTm_next_host TCh G_position⟩⟩ : Fm l.prog w K mg base _ _ c_Host "next_host" _ _)
  have M_can_join := (⟨⟨_, _, MTm_can_join, bTm_can_join, ok_canJ (C := c_Host) (P := l.prog) (w := w) (base := base) FTm_can_join TCh M_next_host⟩⟩ : Fm l.prog w K mg base _ _ c_Host "can_join" _ _)
  have M_log_and_forward := (⟨⟨_, _, MTm_log_and_forward, bTm_log_and_forward, (no_ok : FnOk l.prog w K mg base CX0 1 _ _ _ spNo)⟩⟩ : Fm l.prog w K mg base _ _ c_Host "log_and_forward" _ _)
  have M_accept_bye := (⟨⟨_, _, MTm_accept_bye, bTm_accept_bye, (no_ok : FnOk l.prog w K mg base CX0 1 _ _ _ spNo)⟩⟩ : Fm l.prog w K mg base _ _ c_Host "accept_bye" _ _)
  have M_process_queue := (⟨⟨_, _, MTm_process_queue, bTm_process_queue, (no_ok : FnOk l.prog w K mg base CX0 1 _ _ _ spNo)⟩⟩ : Fm l.prog w K mg base _ _ c_Host "process_queue" _ _)
  have M_act := (⟨⟨_, _, MTm_act, bTm_act, ok_act (kq := c_Host) (C := c_Host) (P := l.prog) (w := w) (base := base) FTm_act TCh (by decide) G_control_step M_waits_for M_join_to M_part_from M_process_queue⟩⟩ : Fm l.prog w K mg base _ _ c_Host "act" _ _)
  have M_accept := (⟨⟨_, _, MTm_accept, bTm_accept, ok_accept (C := c_Host) (P := l.prog) (w := w) (base := base) FTm_accept Y TCh M_waits_for M_log_and_forward M_accept_bye M_can_join M_act⟩⟩ : Fm l.prog w K mg base _ _ c_Host "accept" _ _)
  have M_receive := (⟨⟨_, _, MTm_receive, bTm_receive, ok_recvA (C := c_Host) (P := l.prog) (w := w) (base := base) FTm_receive TCh R_InvalidName G_is_host_name G_check_item M_accept⟩⟩ : Fm l.prog w K mg base _ _ c_Host "receive" _ _)
  have M_ask := (⟨⟨_, _, MTm_ask, bTm_ask, ok_ask (C := c_Host) (P := l.prog) (w := w) (base := base) FTm_ask Y TCh R_InvalidRelink R_NotLinked G_is_relink M_check_free⟩⟩ : Fm l.prog w K mg base _ _ c_Host "ask" _ _)
  have G_law_pot := (⟨⟨_, _, m_law_pot, k_law_pot, b_law_pot, ok_pot F_law_pot Y⟩⟩ : Fk l.prog w K mg base _ _ "_law_pot" _ _)
  have G_law_draw := (⟨⟨_, _, m_law_draw, k_law_draw, b_law_draw, ok_draw F_law_draw Y⟩⟩ : Fk l.prog w K mg base _ _ "_law_draw" _ _)
  have G_law_choose := (⟨⟨_, _, m_law_choose, k_law_choose, b_law_choose, ok_choose F_law_choose Y G_law_draw⟩⟩ : Fk l.prog w K mg base _ _ "_law_choose" _ _)
  have G_law_name := (⟨⟨_, _, m_law_name, k_law_name, b_law_name, ok_name F_law_name Y G_law_draw⟩⟩ : Fk l.prog w K mg base _ _ "_law_name" _ _)
  have G_law_new := (⟨⟨_, _, m_law_new, k_law_new, b_law_new, ok_new F_law_new Y⟩⟩ : Fk l.prog w K mg base _ _ "_law_new" _ _)
  have G_law_awaited := (⟨⟨_, _, m_law_awaited, k_law_awaited, b_law_awaited, ok_aw F_law_awaited Y⟩⟩ : Fk l.prog w K mg base _ _ "_law_awaited" _ _)
  have G_law_unlinked := (⟨⟨_, _, m_law_unlinked, k_law_unlinked, b_law_unlinked, ok_unl F_law_unlinked Y⟩⟩ : Fk l.prog w K mg base _ _ "_law_unlinked" _ _)
  have G_law_linked := (⟨⟨_, _, m_law_linked, k_law_linked, b_law_linked, ok_lnk F_law_linked Y⟩⟩ : Fk l.prog w K mg base _ _ "_law_linked" _ _)
  have G_law_spread := (⟨⟨_, _, m_law_spread, k_law_spread, b_law_spread, no_ok⟩⟩ : Fk l.prog w K mg base _ _ "_law_spread" _ _)
  have G_law_freed := (⟨⟨_, _, m_law_freed, k_law_freed, b_law_freed, no_ok⟩⟩ : Fk l.prog w K mg base _ _ "_law_freed" _ _)
  have G_law_finished := (⟨⟨_, _, m_law_finished, k_law_finished, b_law_finished, no_ok⟩⟩ : Fk l.prog w K mg base _ _ "_law_finished" _ _)
  have G_law_refused := (⟨⟨_, _, m_law_refused, k_law_refused, b_law_refused, no_ok⟩⟩ : Fk l.prog w K mg base _ _ "_law_refused" _ _)
  have G_law_agreed := (⟨⟨_, _, m_law_agreed, k_law_agreed, b_law_agreed, no_ok⟩⟩ : Fk l.prog w K mg base _ _ "_law_agreed" _ _)
  have G_law_gone_on := (⟨⟨_, _, m_law_gone_on, k_law_gone_on, b_law_gone_on, no_ok⟩⟩ : Fk l.prog w K mg base _ _ "_law_gone_on" _ _)
  have G_law_asked := (⟨⟨_, _, m_law_asked, k_law_asked, b_law_asked, ok_askM F_law_asked Y G_law_linked G_law_unlinked⟩⟩ : Fk l.prog w K mg base _ _ "_law_asked" _ _)
  have G_law_received := (⟨⟨_, _, m_law_received, k_law_received, b_law_received, ok_recvM F_law_received Y G_law_awaited G_law_asked G_law_spread G_law_agreed G_law_gone_on G_law_freed G_law_finished G_law_unlinked G_law_refused⟩⟩ : Fk l.prog w K mg base _ _ "_law_received" _ _)
  have G_law_started := (⟨⟨_, _, m_law_started, k_law_started, b_law_started, ok_start F_law_started Y⟩⟩ : Fk l.prog w K mg base _ _ "_law_started" _ _)
  have G_law_shown := (⟨⟨_, _, m_law_shown, k_law_shown, b_law_shown, ok_shown F_law_shown Y TCh M_name M_log M_links M_answers M_relink M_phase M_queue⟩⟩ : Fg l.prog w K mg base _ _ "_law_shown" _ _)
  have G_law_agrees := (⟨⟨_, _, m_law_agrees, k_law_agrees, b_law_agrees, ok_agr F_law_agrees Y TCh G_law_shown M_waits_for G_law_awaited⟩⟩ : Fg l.prog w K mg base _ _ "_law_agrees" _ _)
  have G_law_path := (⟨⟨_, _, m_law_path, k_law_path, b_law_path, ok_pathL F_law_path Y G_law_draw⟩⟩ : Fk l.prog w K mg base _ _ "_law_path" _ _)
  have G_law_ask_due := (⟨⟨_, _, m_law_ask_due, k_law_ask_due, b_law_ask_due, ok_due F_law_ask_due Y G_law_started⟩⟩ : Fk l.prog w K mg base _ _ "_law_ask_due" _ _)
  have G_law_ask_told := (⟨⟨_, _, m_law_ask_told, k_law_ask_told, b_law_ask_told, ok_told F_law_ask_told Y TCh (PySem.W.mg_of X G e_InvalidRelink) (PySem.W.mg_of X G e_Busy) (PySem.W.mg_of X G e_NotLinked) XX M_ask⟩⟩ : Fk l.prog w K mg base _ _ "_law_ask_told" _ _)
  have G_law_received_right := (⟨⟨_, _, m_law_received_right, k_law_received_right, b_law_received_right, ok_rr F_law_received_right Y TCh G_law_awaited G_law_received M_receive G_law_agrees⟩⟩ : Fg l.prog w K mg base _ _ "_law_received_right" _ _)
  have G_law_odd_right := (⟨⟨_, _, m_law_odd_right, k_law_odd_right, b_law_odd_right, ok_or F_law_odd_right Y TCh G_law_choose G_law_ask_told G_law_agrees⟩⟩ : Fg l.prog w K mg base _ _ "_law_odd_right" _ _)
  have G_law_right := (⟨⟨_, _, m_law_right, k_law_right, b_law_right, ok_right F_law_right Y TCh MIH G_law_draw G_law_name G_law_new G_law_path G_law_ask_due G_law_ask_told G_law_agrees G_law_received_right G_law_odd_right⟩⟩ : Fg l.prog w K mg base _ _ "_law_right" _ _)
  exact ok_law F_law Y G_law_pot G_law_right
end My

open PySem PySem.W PyProof.Rows in
set_option maxRecDepth 100000 in
set_option maxHeartbeats 0 in
theorem PySem.Challenge.cw_relinktree_k42_asks_and_refusals_holds : PySem.Challenge.rw_relinktree_k42_asks_and_refusals.Holds := by
  w_on; o_law; k_head; (case hw => w_witness2)
  k_fill
  refine Gy.walk_g (l := PySem.Challenge.rw_relinktree_k42_asks_and_refusals) (n := 63) (k := 15) (x := "_law_script") (sp := My.spLaw) rfl (by decide) rfl ⟨rfl, by decide, by decide⟩ (fun w h Y => PySem.W.kIn_of Y) ?F (fun K H a ns hl hS => ⟨a, ns, rfl, hS, hl, fun _ => rfl⟩)
  case F =>
    intro w mg fa h KX G hmg
    refine' My.all_mk KX G hmg ?a_is_integer_from ?l_is_integer_from ?co_is_integer_from ?k_is_integer_from ?a_is_index ?l_is_index ?co_is_index ?k_is_index ?a_is_text_of ?l_is_text_of ?co_is_text_of ?k_is_text_of ?a_is_host_name ?l_is_host_name ?co_is_host_name ?k_is_host_name ?a_is_word ?l_is_word ?co_is_word ?k_is_word ?a_is_relink_path ?l_is_relink_path ?co_is_relink_path ?k_is_relink_path ?a_is_cut_of ?l_is_cut_of ?co_is_cut_of ?k_is_cut_of ?a_is_relink ?l_is_relink ?co_is_relink ?k_is_relink ?a_check_relink ?l_check_relink ?co_check_relink ?k_check_relink ?a_position ?l_position ?co_position ?k_position ?a_are_message_parts ?l_are_message_parts ?co_are_message_parts ?k_are_message_parts ?a_is_control_kind ?l_is_control_kind ?co_is_control_kind ?k_is_control_kind ?a_is_item ?l_is_item ?co_is_item ?k_is_item ?a_check_item ?l_check_item ?co_check_item ?k_check_item ?a_is_received ?l_is_received ?co_is_received ?k_is_received ?a_link_cut_behind ?l_link_cut_behind ?co_link_cut_behind ?k_link_cut_behind ?a_ask_step ?l_ask_step ?co_ask_step ?k_ask_step ?a_no_step ?l_no_step ?co_no_step ?k_no_step ?a_first_yes_step ?l_first_yes_step ?co_first_yes_step ?k_first_yes_step ?a_yes_step ?l_yes_step ?co_yes_step ?k_yes_step ?a_go_step ?l_go_step ?co_go_step ?k_go_step ?a_back_step ?l_back_step ?co_back_step ?k_back_step ?a_control_step ?l_control_step ?co_control_step ?k_control_step ?a_law_pot ?l_law_pot ?co_law_pot ?k_law_pot ?a_law_draw ?l_law_draw ?co_law_draw ?k_law_draw ?a_law_choose ?l_law_choose ?co_law_choose ?k_law_choose ?a_law_name ?l_law_name ?co_law_name ?k_law_name ?a_law_new ?l_law_new ?co_law_new ?k_law_new ?a_law_awaited ?l_law_awaited ?co_law_awaited ?k_law_awaited ?a_law_unlinked ?l_law_unlinked ?co_law_unlinked ?k_law_unlinked ?a_law_linked ?l_law_linked ?co_law_linked ?k_law_linked ?a_law_spread ?l_law_spread ?co_law_spread ?k_law_spread ?a_law_freed ?l_law_freed ?co_law_freed ?k_law_freed ?a_law_finished ?l_law_finished ?co_law_finished ?k_law_finished ?a_law_refused ?l_law_refused ?co_law_refused ?k_law_refused ?a_law_agreed ?l_law_agreed ?co_law_agreed ?k_law_agreed ?a_law_gone_on ?l_law_gone_on ?co_law_gone_on ?k_law_gone_on ?a_law_asked ?l_law_asked ?co_law_asked ?k_law_asked ?a_law_received ?l_law_received ?co_law_received ?k_law_received ?a_law_started ?l_law_started ?co_law_started ?k_law_started ?a_law_shown ?l_law_shown ?co_law_shown ?k_law_shown ?a_law_agrees ?l_law_agrees ?co_law_agrees ?k_law_agrees ?a_law_path ?l_law_path ?co_law_path ?k_law_path ?a_law_ask_due ?l_law_ask_due ?co_law_ask_due ?k_law_ask_due ?a_law_ask_told ?l_law_ask_told ?co_law_ask_told ?k_law_ask_told ?a_law_received_right ?l_law_received_right ?co_law_received_right ?k_law_received_right ?a_law_odd_right ?l_law_odd_right ?co_law_odd_right ?k_law_odd_right ?a_law_right ?l_law_right ?co_law_right ?k_law_right ?a_law ?l_law ?co_law ?k_law ?v_LETTERS ?v_DIGITS ?v_LONGEST_NAME ?v_LONGEST_WORD ?v_SHORTEST_PATH ?v_MESSAGE ?v_BYE ?v_BITS ?z_len ?z_range ?z_abs ?z_max ?z_min ?z_divmod ?z_isinstance ?z_str ?z_int ?z_bool ?z_tuple ?z_list ?z_set ?z_dict ?z_all ?z_any ?z_repr ?z_sorted ?z_enumerate ?z_zip ?e_InvalidName ?S_InvalidName ?e_InvalidRelink ?S_InvalidRelink ?e_InvalidItem ?S_InvalidItem ?e_InvalidStep ?S_InvalidStep ?e_UnknownHost ?S_UnknownHost ?e_Busy ?S_Busy ?e_NotLinked ?S_NotLinked ?v_CK ?l_CK ?q_CK ?v_ST ?l_ST ?q_ST ?d_ask ?d_no ?d_yes ?d_go ?d_back ?nd5 ?e_Host ?T_pg ?T_hd ?T_po ?T_sa ?T_mk ?T_kc ?T_nown_name ?T_nlinked ?T_nlogged ?T_njoined ?T_nstage ?T_nqueued ?T_nfinished ?aTm_init ?iTm_init ?lTm_init ?cTm_init ?kTm_init ?aTm_name ?iTm_name ?lTm_name ?cTm_name ?kTm_name ?aTm_log ?iTm_log ?lTm_log ?cTm_log ?kTm_log ?aTm_links ?iTm_links ?lTm_links ?cTm_links ?kTm_links ?aTm_answers ?iTm_answers ?lTm_answers ?cTm_answers ?kTm_answers ?aTm_relink ?iTm_relink ?lTm_relink ?cTm_relink ?kTm_relink ?aTm_phase ?iTm_phase ?lTm_phase ?cTm_phase ?kTm_phase ?aTm_queue ?iTm_queue ?lTm_queue ?cTm_queue ?kTm_queue ?aTm_waits_for ?iTm_waits_for ?lTm_waits_for ?cTm_waits_for ?kTm_waits_for ?aTm_check_free ?iTm_check_free ?lTm_check_free ?cTm_check_free ?kTm_check_free ?aTm_ask ?iTm_ask ?lTm_ask ?cTm_ask ?kTm_ask ?aTm_receive ?iTm_receive ?lTm_receive ?cTm_receive ?kTm_receive ?aTm_join_to ?iTm_join_to ?lTm_join_to ?cTm_join_to ?kTm_join_to ?aTm_part_from ?iTm_part_from ?lTm_part_from ?cTm_part_from ?kTm_part_from ?aTm_log_and_forward ?iTm_log_and_forward ?lTm_log_and_forward ?cTm_log_and_forward ?kTm_log_and_forward ?dlTm_log_and_forward ?dqTm_log_and_forward ?aTm_accept ?iTm_accept ?lTm_accept ?cTm_accept ?kTm_accept ?aTm_accept_bye ?iTm_accept_bye ?lTm_accept_bye ?cTm_accept_bye ?kTm_accept_bye ?aTm_can_join ?iTm_can_join ?lTm_can_join ?cTm_can_join ?kTm_can_join ?aTm_next_host ?iTm_next_host ?lTm_next_host ?cTm_next_host ?kTm_next_host ?aTm_act ?iTm_act ?lTm_act ?cTm_act ?kTm_act ?aTm_process_queue ?iTm_process_queue ?lTm_process_queue ?cTm_process_queue ?kTm_process_queue ?cg ?ct ?cl_C ?tP_C ?cl_B ?tP_B ?cl_D ?tP_D ?bP_C ?s_CC ?s_BC ?bP_B ?s_BB ?s_DC ?s_DB ?bP_D ?s_DD ?f_Cvalue ?f_Bhost ?f_Dhost ?f_Dother
    (case a_is_integer_from => k_is)
    (case l_is_integer_from => k_is)
    (case co_is_integer_from => k_is)
    (case k_is_integer_from => k_is)
    (case a_is_index => k_is)
    (case l_is_index => k_is)
    (case co_is_index => k_is)
    (case k_is_index => k_is)
    (case a_is_text_of => k_is)
    (case l_is_text_of => k_is)
    (case co_is_text_of => k_is)
    (case k_is_text_of => k_is)
    (case a_is_host_name => k_is)
    (case l_is_host_name => k_is)
    (case co_is_host_name => k_is)
    (case k_is_host_name => k_is)
    (case a_is_word => k_is)
    (case l_is_word => k_is)
    (case co_is_word => k_is)
    (case k_is_word => k_is)
    (case a_is_relink_path => k_is)
    (case l_is_relink_path => k_is)
    (case co_is_relink_path => k_is)
    (case k_is_relink_path => k_is)
    (case a_is_cut_of => k_is)
    (case l_is_cut_of => k_is)
    (case co_is_cut_of => k_is)
    (case k_is_cut_of => k_is)
    (case a_is_relink => k_is)
    (case l_is_relink => k_is)
    (case co_is_relink => k_is)
    (case k_is_relink => k_is)
    (case a_check_relink => k_is)
    (case l_check_relink => k_is)
    (case co_check_relink => k_is)
    (case k_check_relink => k_is)
    (case a_position => k_is)
    (case l_position => k_is)
    (case co_position => k_is)
    (case k_position => k_is)
    (case a_are_message_parts => k_is)
    (case l_are_message_parts => k_is)
    (case co_are_message_parts => k_is)
    (case k_are_message_parts => k_is)
    (case a_is_control_kind => k_is)
    (case l_is_control_kind => k_is)
    (case co_is_control_kind => k_is)
    (case k_is_control_kind => k_is)
    (case a_is_item => k_is)
    (case l_is_item => k_is)
    (case co_is_item => k_is)
    (case k_is_item => k_is)
    (case a_check_item => k_is)
    (case l_check_item => k_is)
    (case co_check_item => k_is)
    (case k_check_item => k_is)
    (case a_is_received => k_is)
    (case l_is_received => k_is)
    (case co_is_received => k_is)
    (case k_is_received => k_is)
    (case a_link_cut_behind => k_is)
    (case l_link_cut_behind => k_is)
    (case co_link_cut_behind => k_is)
    (case k_link_cut_behind => k_is)
    (case a_ask_step => k_is)
    (case l_ask_step => k_is)
    (case co_ask_step => k_is)
    (case k_ask_step => k_is)
    (case a_no_step => k_is)
    (case l_no_step => k_is)
    (case co_no_step => k_is)
    (case k_no_step => k_is)
    (case a_first_yes_step => k_is)
    (case l_first_yes_step => k_is)
    (case co_first_yes_step => k_is)
    (case k_first_yes_step => k_is)
    (case a_yes_step => k_is)
    (case l_yes_step => k_is)
    (case co_yes_step => k_is)
    (case k_yes_step => k_is)
    (case a_go_step => k_is)
    (case l_go_step => k_is)
    (case co_go_step => k_is)
    (case k_go_step => k_is)
    (case a_back_step => k_is)
    (case l_back_step => k_is)
    (case co_back_step => k_is)
    (case k_back_step => k_is)
    (case a_control_step => k_is)
    (case l_control_step => k_is)
    (case co_control_step => k_is)
    (case k_control_step => k_is)
    (case a_law_pot => k_is)
    (case l_law_pot => k_is)
    (case co_law_pot => k_is)
    (case k_law_pot => k_is)
    (case a_law_draw => k_is)
    (case l_law_draw => k_is)
    (case co_law_draw => k_is)
    (case k_law_draw => k_is)
    (case a_law_choose => k_is)
    (case l_law_choose => k_is)
    (case co_law_choose => k_is)
    (case k_law_choose => k_is)
    (case a_law_name => k_is)
    (case l_law_name => k_is)
    (case co_law_name => k_is)
    (case k_law_name => k_is)
    (case a_law_new => k_is)
    (case l_law_new => k_is)
    (case co_law_new => k_is)
    (case k_law_new => k_is)
    (case a_law_awaited => k_is)
    (case l_law_awaited => k_is)
    (case co_law_awaited => k_is)
    (case k_law_awaited => k_is)
    (case a_law_unlinked => k_is)
    (case l_law_unlinked => k_is)
    (case co_law_unlinked => k_is)
    (case k_law_unlinked => k_is)
    (case a_law_linked => k_is)
    (case l_law_linked => k_is)
    (case co_law_linked => k_is)
    (case k_law_linked => k_is)
    (case a_law_spread => k_is)
    (case l_law_spread => k_is)
    (case co_law_spread => k_is)
    (case k_law_spread => k_is)
    (case a_law_freed => k_is)
    (case l_law_freed => k_is)
    (case co_law_freed => k_is)
    (case k_law_freed => k_is)
    (case a_law_finished => k_is)
    (case l_law_finished => k_is)
    (case co_law_finished => k_is)
    (case k_law_finished => k_is)
    (case a_law_refused => k_is)
    (case l_law_refused => k_is)
    (case co_law_refused => k_is)
    (case k_law_refused => k_is)
    (case a_law_agreed => k_is)
    (case l_law_agreed => k_is)
    (case co_law_agreed => k_is)
    (case k_law_agreed => k_is)
    (case a_law_gone_on => k_is)
    (case l_law_gone_on => k_is)
    (case co_law_gone_on => k_is)
    (case k_law_gone_on => k_is)
    (case a_law_asked => k_is)
    (case l_law_asked => k_is)
    (case co_law_asked => k_is)
    (case k_law_asked => k_is)
    (case a_law_received => k_is)
    (case l_law_received => k_is)
    (case co_law_received => k_is)
    (case k_law_received => k_is)
    (case a_law_started => k_is)
    (case l_law_started => k_is)
    (case co_law_started => k_is)
    (case k_law_started => k_is)
    (case a_law_shown => k_is)
    (case l_law_shown => k_is)
    (case co_law_shown => k_is)
    (case k_law_shown => k_is)
    (case a_law_agrees => k_is)
    (case l_law_agrees => k_is)
    (case co_law_agrees => k_is)
    (case k_law_agrees => k_is)
    (case a_law_path => k_is)
    (case l_law_path => k_is)
    (case co_law_path => k_is)
    (case k_law_path => k_is)
    (case a_law_ask_due => k_is)
    (case l_law_ask_due => k_is)
    (case co_law_ask_due => k_is)
    (case k_law_ask_due => k_is)
    (case a_law_ask_told => k_is)
    (case l_law_ask_told => k_is)
    (case co_law_ask_told => k_is)
    (case k_law_ask_told => k_is)
    (case a_law_received_right => k_is)
    (case l_law_received_right => k_is)
    (case co_law_received_right => k_is)
    (case k_law_received_right => k_is)
    (case a_law_odd_right => k_is)
    (case l_law_odd_right => k_is)
    (case co_law_odd_right => k_is)
    (case k_law_odd_right => k_is)
    (case a_law_right => k_is)
    (case l_law_right => k_is)
    (case co_law_right => k_is)
    (case k_law_right => k_is)
    (case a_law => k_is)
    (case l_law => k_is)
    (case co_law => k_is)
    (case k_law => k_is)
    (case v_LETTERS => k_is)
    (case v_DIGITS => k_is)
    (case v_LONGEST_NAME => k_is)
    (case v_LONGEST_WORD => k_is)
    (case v_SHORTEST_PATH => k_is)
    (case v_MESSAGE => k_is)
    (case v_BYE => k_is)
    (case v_BITS => k_is)
    (case z_len => k_is)
    (case z_range => k_is)
    (case z_abs => k_is)
    (case z_max => k_is)
    (case z_min => k_is)
    (case z_divmod => k_is)
    (case z_isinstance => k_is)
    (case z_str => k_is)
    (case z_int => k_is)
    (case z_bool => k_is)
    (case z_tuple => k_is)
    (case z_list => k_is)
    (case z_set => k_is)
    (case z_dict => k_is)
    (case z_all => k_is)
    (case z_any => k_is)
    (case z_repr => k_is)
    (case z_sorted => k_is)
    (case z_enumerate => k_is)
    (case z_zip => k_is)
    (case e_InvalidName => k_is)
    (case S_InvalidName =>
      refine' My.raw_InvalidName ?ii ?ov ?sa ?ga ?gg ?ca ?ex ?ob ?hd ?kp ?ty ?ini ?tf ?li ?ci ?ki ?n0
      (case ii => kx_is)
      (case ov => kx_is)
      (case sa => k_is)
      (case ga => k_is)
      (case gg => k_is)
      (case ca => k_is)
      (case ex => k_is)
      (case ob => k_is)
      (case hd => k_is)
      (case kp => k_is)
      (case ty => k_is)
      (case ini => k_is)
      (case tf => k_is)
      (case li => k_is)
      (case ci => k_is)
      (case ki => k_is)
      (case n0 => k_is))
    (case e_InvalidRelink => k_is)
    (case S_InvalidRelink =>
      refine' My.raw_InvalidRelink ?ii ?ov ?sa ?ga ?gg ?ca ?ex ?ob ?hd ?kp ?ty ?ini ?tf ?li ?ci ?ki ?n0
      (case ii => kx_is)
      (case ov => kx_is)
      (case sa => k_is)
      (case ga => k_is)
      (case gg => k_is)
      (case ca => k_is)
      (case ex => k_is)
      (case ob => k_is)
      (case hd => k_is)
      (case kp => k_is)
      (case ty => k_is)
      (case ini => k_is)
      (case tf => k_is)
      (case li => k_is)
      (case ci => k_is)
      (case ki => k_is)
      (case n0 => k_is))
    (case e_InvalidItem => k_is)
    (case S_InvalidItem =>
      refine' My.raw_InvalidItem ?ii ?ov ?sa ?ga ?gg ?ca ?ex ?ob ?hd ?kp ?ty ?ini ?tf ?li ?ci ?ki ?n0
      (case ii => kx_is)
      (case ov => kx_is)
      (case sa => k_is)
      (case ga => k_is)
      (case gg => k_is)
      (case ca => k_is)
      (case ex => k_is)
      (case ob => k_is)
      (case hd => k_is)
      (case kp => k_is)
      (case ty => k_is)
      (case ini => k_is)
      (case tf => k_is)
      (case li => k_is)
      (case ci => k_is)
      (case ki => k_is)
      (case n0 => k_is))
    (case e_InvalidStep => k_is)
    (case S_InvalidStep =>
      refine' My.raw_InvalidStep ?ii ?ov ?sa ?ga ?gg ?ca ?ex ?ob ?hd ?kp ?ty ?ini ?tf ?li ?ci ?ki ?n0 ?n1
      (case ii => kx_is)
      (case ov => kx_is)
      (case sa => k_is)
      (case ga => k_is)
      (case gg => k_is)
      (case ca => k_is)
      (case ex => k_is)
      (case ob => k_is)
      (case hd => k_is)
      (case kp => k_is)
      (case ty => k_is)
      (case ini => k_is)
      (case tf => k_is)
      (case li => k_is)
      (case ci => k_is)
      (case ki => k_is)
      (case n0 => k_is)
      (case n1 => k_is))
    (case e_UnknownHost => k_is)
    (case S_UnknownHost =>
      refine' My.raw_UnknownHost ?ii ?ov ?sa ?ga ?gg ?ca ?ex ?ob ?hd ?kp ?ty ?ini ?tf ?li ?ci ?ki ?n0
      (case ii => kx_is)
      (case ov => kx_is)
      (case sa => k_is)
      (case ga => k_is)
      (case gg => k_is)
      (case ca => k_is)
      (case ex => k_is)
      (case ob => k_is)
      (case hd => k_is)
      (case kp => k_is)
      (case ty => k_is)
      (case ini => k_is)
      (case tf => k_is)
      (case li => k_is)
      (case ci => k_is)
      (case ki => k_is)
      (case n0 => k_is))
    (case e_Busy => k_is)
    (case S_Busy =>
      refine' My.raw_Busy ?ii ?ov ?sa ?ga ?gg ?ca ?ex ?ob ?hd ?kp ?ty ?ini ?tf ?li ?ci ?ki ?n0
      (case ii => kx_is)
      (case ov => kx_is)
      (case sa => k_is)
      (case ga => k_is)
      (case gg => k_is)
      (case ca => k_is)
      (case ex => k_is)
      (case ob => k_is)
      (case hd => k_is)
      (case kp => k_is)
      (case ty => k_is)
      (case ini => k_is)
      (case tf => k_is)
      (case li => k_is)
      (case ci => k_is)
      (case ki => k_is)
      (case n0 => k_is))
    (case e_NotLinked => k_is)
    (case S_NotLinked =>
      refine' My.raw_NotLinked ?ii ?ov ?sa ?ga ?gg ?ca ?ex ?ob ?hd ?kp ?ty ?ini ?tf ?li ?ci ?ki ?n0 ?n1
      (case ii => kx_is)
      (case ov => kx_is)
      (case sa => k_is)
      (case ga => k_is)
      (case gg => k_is)
      (case ca => k_is)
      (case ex => k_is)
      (case ob => k_is)
      (case hd => k_is)
      (case kp => k_is)
      (case ty => k_is)
      (case ini => k_is)
      (case tf => k_is)
      (case li => k_is)
      (case ci => k_is)
      (case ki => k_is)
      (case n0 => k_is)
      (case n1 => k_is))
    (case v_CK => k_is)
    (case l_CK => k_is)
    (case q_CK => exact ⟨_, _, rfl, rfl, (by decide), .cons ⟨_, rfl⟩ (.cons ⟨_, rfl⟩ (.cons ⟨_, rfl⟩ (.cons ⟨_, rfl⟩ (.cons ⟨_, rfl⟩ .nil))))⟩)
    (case v_ST => k_is)
    (case l_ST => k_is)
    (case q_ST => exact ⟨⟨_, _, rfl, rfl⟩, ⟨_, _, rfl, rfl⟩, ⟨_, _, rfl, rfl⟩, ⟨_, _, rfl, rfl⟩, ⟨_, _, rfl, rfl⟩, trivial⟩)
    (case d_ask => k_is)
    (case d_no => k_is)
    (case d_yes => k_is)
    (case d_go => k_is)
    (case d_back => k_is)
    (case nd5 => decide)
    (case e_Host => k_is)
    (case T_pg => k_is)
    (case T_hd => k_is)
    (case T_po => k_is)
    (case T_sa => k_is)
    (case T_mk => k_is)
    (case T_kc => k_is)
    (case T_nown_name => k_is)
    (case T_nlinked => k_is)
    (case T_nlogged => k_is)
    (case T_njoined => k_is)
    (case T_nstage => k_is)
    (case T_nqueued => k_is)
    (case T_nfinished => k_is)
    (case aTm_init => k_is)
    (case iTm_init => k_is)
    (case lTm_init => k_is)
    (case cTm_init => k_is)
    (case kTm_init => k_is)
    (case aTm_name => k_is)
    (case iTm_name => k_is)
    (case lTm_name => k_is)
    (case cTm_name => k_is)
    (case kTm_name => k_is)
    (case aTm_log => k_is)
    (case iTm_log => k_is)
    (case lTm_log => k_is)
    (case cTm_log => k_is)
    (case kTm_log => k_is)
    (case aTm_links => k_is)
    (case iTm_links => k_is)
    (case lTm_links => k_is)
    (case cTm_links => k_is)
    (case kTm_links => k_is)
    (case aTm_answers => k_is)
    (case iTm_answers => k_is)
    (case lTm_answers => k_is)
    (case cTm_answers => k_is)
    (case kTm_answers => k_is)
    (case aTm_relink => k_is)
    (case iTm_relink => k_is)
    (case lTm_relink => k_is)
    (case cTm_relink => k_is)
    (case kTm_relink => k_is)
    (case aTm_phase => k_is)
    (case iTm_phase => k_is)
    (case lTm_phase => k_is)
    (case cTm_phase => k_is)
    (case kTm_phase => k_is)
    (case aTm_queue => k_is)
    (case iTm_queue => k_is)
    (case lTm_queue => k_is)
    (case cTm_queue => k_is)
    (case kTm_queue => k_is)
    (case aTm_waits_for => k_is)
    (case iTm_waits_for => k_is)
    (case lTm_waits_for => k_is)
    (case cTm_waits_for => k_is)
    (case kTm_waits_for => k_is)
    (case aTm_check_free => k_is)
    (case iTm_check_free => k_is)
    (case lTm_check_free => k_is)
    (case cTm_check_free => k_is)
    (case kTm_check_free => k_is)
    (case aTm_ask => k_is)
    (case iTm_ask => k_is)
    (case lTm_ask => k_is)
    (case cTm_ask => k_is)
    (case kTm_ask => k_is)
    (case aTm_receive => k_is)
    (case iTm_receive => k_is)
    (case lTm_receive => k_is)
    (case cTm_receive => k_is)
    (case kTm_receive => k_is)
    (case aTm_join_to => k_is)
    (case iTm_join_to => k_is)
    (case lTm_join_to => k_is)
    (case cTm_join_to => k_is)
    (case kTm_join_to => k_is)
    (case aTm_part_from => k_is)
    (case iTm_part_from => k_is)
    (case lTm_part_from => k_is)
    (case cTm_part_from => k_is)
    (case kTm_part_from => k_is)
    (case aTm_log_and_forward => k_is)
    (case iTm_log_and_forward => k_is)
    (case lTm_log_and_forward => k_is)
    (case cTm_log_and_forward => k_is)
    (case kTm_log_and_forward => k_is)
    (case dlTm_log_and_forward => k_is)
    (case dqTm_log_and_forward => exact ⟨_, _, rfl⟩)
    (case aTm_accept => k_is)
    (case iTm_accept => k_is)
    (case lTm_accept => k_is)
    (case cTm_accept => k_is)
    (case kTm_accept => k_is)
    (case aTm_accept_bye => k_is)
    (case iTm_accept_bye => k_is)
    (case lTm_accept_bye => k_is)
    (case cTm_accept_bye => k_is)
    (case kTm_accept_bye => k_is)
    (case aTm_can_join => k_is)
    (case iTm_can_join => k_is)
    (case lTm_can_join => k_is)
    (case cTm_can_join => k_is)
    (case kTm_can_join => k_is)
    (case aTm_next_host => k_is)
    (case iTm_next_host => k_is)
    (case lTm_next_host => k_is)
    (case cTm_next_host => k_is)
    (case kTm_next_host => k_is)
    (case aTm_act => k_is)
    (case iTm_act => k_is)
    (case lTm_act => k_is)
    (case cTm_act => k_is)
    (case kTm_act => k_is)
    (case aTm_process_queue => k_is)
    (case iTm_process_queue => k_is)
    (case lTm_process_queue => k_is)
    (case cTm_process_queue => k_is)
    (case kTm_process_queue => k_is)
    (case cg => k_is)
    (case ct => k_is)
    (case cl_C => k_is)
    (case tP_C => k_is)
    (case cl_B => k_is)
    (case tP_B => k_is)
    (case cl_D => k_is)
    (case tP_D => k_is)
    (case bP_C => k_is)
    (case s_CC => k_is)
    (case s_BC => k_is)
    (case bP_B => k_is)
    (case s_BB => k_is)
    (case s_DC => k_is)
    (case s_DB => k_is)
    (case bP_D => k_is)
    (case s_DD => k_is)
    (case f_Cvalue => k_is)
    (case f_Bhost => k_is)
    (case f_Dhost => k_is)
    (case f_Dother => k_is)

