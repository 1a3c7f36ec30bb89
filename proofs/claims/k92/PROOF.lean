import PyProof.Rows.All
import Wide.All
import OpenK.AllK
import Wide.FinOn
import HandS.ForMost
import HandS.IsInst
import HandS.Walk
import KE.KExcPX
import KE.KExcInit
import KE.KExcIs
import HandS.ExcInit
import PyProof.ReprLen
import HandS.ForExc
import HandS.ExcField
import HandS.TryMany
import HandS.CallSlots
import HandS.RaiseFrom
import HandS.HotCalls
import HandS.SuiteRaise
import HandS.ExcInitHot
import HandS.Strs
import HandS.TupAny
import HandS.Style
import PyProof.ReprHeadsEmpty
import HandS.FStr
import HandS.DictComp
import HandS.SortRule
import HandS.OwnEq
import HandS.TupLe
import HandS.ExcOwn
import HandS.Defaults
import PyProof.EqKinds
import PyProof.FactsAll.dict_1
import PyProof.FactsAll.subtypes_4
import PyProof.FactsAll.subtypes_3
import PyProof.FactsAll.str_1
import HandS.WideBits
import HandS.DeepEq
import HandS.CallLocal
import HandS.WrittenGet
import PyProof.ReprText
import HandS.Flow
import HandS.Text
import PyProof.StrLawsChain
import HandS.SetFor
import KE.DataFind
import PyProof.NeKinds
import HandS.Evl
import KE.KExcLine
import PySem.Challenge.RW_relinktree_k92_tree_texts_spoilt
set_option Elab.async false
set_option linter.all false
set_option maxRecDepth 100000
set_option maxHeartbeats 4000000
/-! Defs whose promise needs to know that no repr is under way: the layer's def, call and end once more with that premise. -/
namespace Gy
open PySem PySem.Spec PyProof.Rows L2

/-- repr of data at an address -/
theorem repr_dat {X : Cx} (hg : X.A.guards = some []) (hu : X.A.units + 70 < cLine) :
    CallR X (.builtin "repr") (fun xs H Q => ∃ a d, xs = [.ref a] ∧ Dp X.K H (.ref a) d ∧ d.showable = true ∧ d.hasDict = false ∧ d.depth ≤ 60 ∧
      d.shown.length ≤ sizeLine ∧ Q (.str d.shown) H) := by
  intro pins s σ H xs us Q I r h
  obtain ⟨a, d, rfl, hd, h1, h2, h3, h4, q⟩ := h
  obtain ⟨u, rfl, ru⟩ := vals1 r
  obtain ⟨as, rd⟩ := Dp.reads I d _ u hd ru
  cases ru
  refine repr_of_reads' rd h1 (fun z => ?_) hg (by omega) (fun _ _ e => e) (fun h' u tk hk => ?_) h4
  · rw [h2] at z
    cases z
  · exact ⟨.str _, H, I.kept hk, ⟨u, rfl⟩, q⟩

/-- a def's promise, where no repr is under way -/
structure FnG (P : Program) (w : World) (K : PySem.W.Frag) (mg : Str → Option Value) (base : Heap)
    (CX : CXT) (k : Nat) (f : Addr) (fd : FuncData) (ps : List Str) (sp : Sp) : Prop where
  ln : ∀ {vs H Q E}, sp vs H Q E → vs.length = ps.length
  go : ∀ {A outer s H args us vs Q E}, A.guards = some [] → Room k A → Env0 P w K mg base A outer s H →
    BindsTo s fd args (ps.zip us) → Vals vs us → sp vs H Q E → codeAny (model P w) A (.call (.ref f) args) (CR CX outer P w H s Q E) s

section
variable {P : Program} {w : World} {K : PySem.W.Frag} {mg : Str → Option Value} {base : Heap} {CX : CXT} {k : Nat} {f : Addr} {fd : FuncData} {ps N : List Str} {sp : Sp}
theorem FnG.up {j : Nat} (F : FnG P w K mg base CX j f fd ps sp) (h : j ≤ k) : FnG P w K mg base CX k f fd ps sp :=
  ⟨F.ln, fun g hr => F.go g (hr.mono h)⟩
theorem FnG.of (F : FnOk P w K mg base CX k f fd ps sp) : FnG P w K mg base CX k f fd ps sp :=
  ⟨fun h => F.len _ _ _ _ h, fun _ hr e b v h => F.run _ _ _ _ _ _ _ _ _ hr e b v h⟩

theorem fun_g {x qual : Str} {st : Stmt} (F : Fun K x qual st f fd) (S : FnScope N ps (defScope st)) (ln : ∀ {vs H Q E}, sp vs H Q E → vs.length = ps.length)
    (bd : ∀ (cdv : Value) (A : Around) (outer : List Env) (s : Shared) (H : Hp) (vs : List V) (Q : VK) (E : XK), A.guards = some [] →
      Room k (A.deeper (envOfC qual (defScope st) s.heap.objs.size f cdv)) → sp vs H Q E →
      ∃ t, PSs (cxOf CX P w K mg base N qual (defScope st) f cdv A outer s H E) (defBody st) t ∧
        t { nx := fun _ H' => Q .non H', rt := Q } (start N vs) H) :
    FnG P w K mg base CX (k + 1) f fd ps sp := by
  obtain ⟨oc, od, kV, doc, pm, an, cdv, ct, osl, rfl, lk, hcd⟩ := F.ex
  refine ⟨ln, ?_⟩
  intro A outer s H args us vs Q E g hr e0 hb rl hsp
  have stay : ∀ b o, base.get? b = some o → s.heap.get? b = some o := fun b o e => (e0.bs b o e).1
  have kin := e0.mod.kin.keeps stay
  have nol := e0.mod.nolimit.keeps stay
  refine codeAny_call_function hr.depth (kin _ _ lk) rfl S.co S.gen rfl (PySem.W.codeRec_of kin hcd) (hb _ _ _ _ ?_)
  refine wpAny_newFunctionEnv_cells S.kind ?_ ?_
  · rintro ⟨n, v⟩ hy
    refine (S.par n (List.of_mem_zip hy).1).imp id fun q => ⟨q, ?_⟩
    exact PySem.W.cellsFrom_some _ _ _ (.inl q)
  · rintro env rfl s1 x
    refine ⟨nol.keeps x.toInCall.keep, codeAny_func ?_⟩
    obtain ⟨t, ht, hq⟩ := bd cdv A outer s H vs Q E g (hr.deeper _) hsp
    have I := inv_start (CX := CX) (E := E) (outer := outer) S hr.hd e0 (ln hsp) rl x
    refine wpAny_mono (ht.run [] s1 (start N vs) H _ I hq) ?_ (fun _ _ z => z)
    rintro (_ | _ | _ | u) s' z
    all_goals first
      | (obtain ⟨σ', H', J, q⟩ := z
         exact ⟨V.non, H', J.os, J.bare, J.base, J.hok, rfl, q⟩)
      | (obtain ⟨_, _, _, q⟩ := z
         exact q.elim)
      | (obtain ⟨v, σ', H', J, rv, q⟩ := z
         exact ⟨v, H', J.os, J.bare, J.base, J.hok, rv, q⟩)
end
end Gy

namespace Gy
open PySem PySem.Spec PyProof.Rows L2

/-- the readings of the two calls below -/
def tG (sp : Sp) (E : XK) (t : TA) : TE := fun σ H Q => t σ H fun vs H1 => sp vs H1 Q E
def tKw0 (sp : Sp) (gV : List V → List V → List V) (E : XK) (tk : TA) : TE := fun σ H Q => tk σ H fun zs H1 => sp (gV [] zs) H1 Q E
section
variable {X : Cx} {CX : CXT} {k : Nat} {f : Addr} {fd : FuncData} {ps ks : List Str} {sp : Sp} {E : XK} {x : Str} {p pos : Pos} {e : Expr} {es : List Expr} {kws : List Keyword} {t tk : TA}
variable {g : List Value → List Value → List Value} {gV : List V → List V → List V}
/-- f(e, ..) of a def that wants to know of repr -/
theorem pe_callG (F : FnG X.prog X.w X.K X.mg X.base CX k f fd ps sp) (gd : X.A.guards = some []) (hr : Room k X.A) (hg : Gl X x)
    (hm : X.mg x = some (.ref f)) (hk : PySem.W.keepIn X.K (.ref f) = true) (hb : Binds X.K fd ps []) (hx : Passes CX X E) (ha : PA X (e :: es) t)
    (hdb : (x == ("__debug__" : Str)) = false := by decide) (he : starEach (e :: es) X.env = (false, eval e X.env) :: starEach es X.env := by rfl)
    (hpl : (backTo pos (starEach es X.env)).any (·.1) = false := by rfl) :
    PE X (.Call (.Name x p) (e :: es) [] pos) (tG sp E t) := by
  constructor
  intro pins s σ H Q I h
  refine wpAny_Call_Name_kw (ld_glob I hg hm ?_ hdb)
  refine PySem.W.callWith_K (h₀ := X.base) I.ok.mod.kin hk (thn (ha.run pos pins s σ H _ I h) ?_) he hpl
  rintro us s1 ⟨vs, H1, I1, r, q⟩
  refine ⟨I1.kIn, wpAny_call (codeAny_mono (F.go (args := ⟨us, []⟩) gd hr I1.env0 ?_ r q) ?_)⟩
  · have b := hb s1 us I1.kIn (by rw [List.append_nil, ← r.length]; exact F.ln q)
    rwa [List.append_nil] at b
  · rintro (er | (_ | _ | _ | u)) s' z
    · exact hx pins σ H1 s1 er s' I1 z
    · exact z.elim
    · exact z.elim
    · exact z.elim
    · exact I1.after z
/-- f(k = v, ..), nothing by position -/
theorem pe_kw0 (F : FnOk X.prog X.w X.K X.mg X.base CX k f fd ps sp) (hr : Room k X.A) (hg : Gl X x) (hm : X.mg x = some (.ref f))
    (hk : PySem.W.keepIn X.K (.ref f) = true) (hb : KBinds X.K fd ps ks g gV) (hx : Passes CX X E) (hkw : PK X kws tk)
    (hall : (backToKw pos (keywordEach kws X.env)).all (·.1.isSome) = true := by rfl) (hks : (backToKw pos (keywordEach kws X.env)).filterMap (·.1) = ks := by rfl)
    (hdb : (x == ("__debug__" : Str)) = false := by decide)
    (hpl : ((backTo pos (starEach [] X.env)).any (·.1) || (backToKw pos (keywordEach kws X.env)).any (·.1.isNone)) = false := by rfl) :
    PE X (.Call (.Name x p) [] kws pos) (tKw0 sp gV E tk) := by
  constructor
  intro pins s σ H Q I h
  refine wpAny_Call_Name_kw (ld_glob I hg hm ?_ hdb)
  refine PySem.W.callWith_KW0 (h₀ := X.base) I.ok.mod.kin hk hall (thn (hkw.run pos pins s σ H _ I h) ?_) hpl
  rintro ws s2 ⟨zs, H2, I2, rz, q2⟩
  rw [hks]
  exact ⟨I2.kIn, run_fnk (us := []) F hr hb hx I2 .nil rz q2⟩
end

/-- the law's call, its def a FnG -/
theorem end_g {P : Program} {w : World} {K : PySem.W.Frag} {mg mb : Str → Option Value} {CX : CXT} {k : Nat} {fa a : Addr} {fd : FuncData} {x : Str} {sp : Sp}
    {s : Shared} {vs : List Value} {ns : List Int} (kin : K.In s.heap) (hns : s.heap.Ns mainGlobals mg) (hb : s.heap.Ns builtinsNs mb)
    (hbb : ∀ x : Str, x ≠ "__name__" → mb x = bootBuiltins x) (nol : s.heap.NoLimit) (hg : s.gens = #[])
    (ha : s.heap.get? a = some { cls := .type "list", data := .seq vs.toArray }) (hi : IntsAre vs ns) (hl : ns.length ≤ sizeLine) (hr : Room k callerA)
    (F : ∀ base : Heap, K.In base → base.Ns mainGlobals mg → FnG P w K mg base CX k fa fd [x] sp)
    (bnd : ∀ (s : Shared) (u : Value), BindsTo s fd ⟨[u], []⟩ [(x, u)])
    (hsp : ∀ H : Hp, Only H → SqL K H a (ns.map V.int) → sp [.ref a] H (fun v _ => v = .bl true) fun _ _ _ => False)
    (hCX : ∀ H e s', CX [] H s (fun _ _ _ => False) e s' → False) :
    codeAny (model P w) callerA (.call (.ref fa) ⟨[.ref a], []⟩)
      (fun r s' => r = .ok (.ret (.bool true)) ∧ OldK s.heap s'.heap ∧ s'.os = s.os ∧ AllBare s'.gens) s := by
  have main : ∀ H : Hp, Only H → SqL K H a (ns.map V.int) → HOk P w H s.heap → (∀ b, H b ≠ none → b = a) → (H a ≠ none → K.lookup a = none) →
      codeAny (model P w) callerA (.call (.ref fa) ⟨[.ref a], []⟩)
        (fun r s' => r = .ok (.ret (.bool true)) ∧ OldK s.heap s'.heap ∧ s'.os = s.os ∧ AllBare s'.gens) s := by
    intro H only seq hok alone notK
    have noD : ∀ {b o es ep}, s.heap.get? b = some o → o.data = .dict es ep → H b = none := by
      intro b o es ep e d
      cases q : H b with
      | none => rfl
      | some u =>
        obtain rfl := alone b (by rw [q]; exact fun z => nomatch z)
        rw [ha] at e
        cases e
        exact nomatch d
    have nsB : ∀ {b m}, s.heap.Ns b m → (hidT s.heap H).Ns b m := by
      rintro b m ⟨o, es, ep, e, d, r⟩
      exact ⟨o, es, ep, hidT_get e (noD e d), d, r⟩
    have kB : K.In (hidT s.heap H) := by
      intro b o e
      refine hidT_get (kin b o e) ?_
      cases q : H b with
      | none => rfl
      | some u =>
        obtain rfl := alone b (by rw [q]; exact fun z => nomatch z)
        rw [notK (by rw [q]; exact fun z => nomatch z)] at e
        cases e
    obtain ⟨mc, l1, l2⟩ := nol
    have e0 : Env0 P w K mg (hidT s.heap H) callerA [] s H := by
      refine ⟨rfl, ⟨kB, nsB hns, ⟨mb, nsB hb, hbb⟩, ⟨mc, nsB l1, l2⟩⟩, fun b o e => of_hidT e, Nat.le_of_eq (hidT_size _ _), trivial, ?_, hok, .of_eq hg⟩
      intro b z
      exact nomatch (show b ∈ ([] : List Addr) from z)
    have run := (F _ kB (nsB hns)).go (A := callerA) (args := ⟨[.ref a], []⟩) (us := [.ref a]) (vs := [V.ref a]) rfl hr e0 (bnd s (.ref a)) (.cons rfl .nil) (hsp H only seq)
    refine codeAny_mono run ?_
    rintro (er | (_ | _ | _ | u)) s' z
    · exact (hCX H er s' z).elim
    · exact z.elim
    · exact z.elim
    · exact z.elim
    · obtain ⟨v, H', os, bare, un, hok', rv, q⟩ := z
      cases (show v = .bl true from q)
      cases (show u = Value.bool true from rv)
      refine ⟨rfl, OldK.of_keep fun b o e => ?_, os, bare⟩
      rcases only b with n | ⟨ob, xs, y⟩
      · exact un.keep b o e n (fun z => nomatch (show b ∈ ([] : List Addr) from z)) (fun z => nomatch z)
      · obtain ⟨e1, _⟩ := hok b _ y
        obtain ⟨e2, _⟩ := hok' b _ (un.frzs b ob _ y)
        rw [e] at e1
        cases e1
        exact e2
  have rv := vals_ints hi
  cases hk : K.lookup a with
  | some o =>
    have e := kin a o hk
    rw [ha] at e
    cases e
    refine main (fun _ => none) (fun _ => .inl rfl) (.inr ⟨_, vs.toArray, _, hk, rfl, rfl, rfl, ?_, rv⟩) (fun b u z => nomatch z) (fun b z => absurd rfl z) (fun z => absurd rfl z)
    rw [List.size_toArray, hi.length]
    exact hl
  | none =>
    let ob : Obj := { cls := .type "list", data := .seq vs.toArray }
    refine main (fun b => if b = a then some (.frz ob (.lst (ns.map V.int))) else none) (fun b => ?_) (.inl (.inr ⟨ob, if_pos rfl⟩)) (fun b u z => ?_) (fun b z => ?_) (fun _ => hk)
    · by_cases q : b = a
      · exact .inr ⟨_, _, if_pos q⟩
      · exact .inl (if_neg q)
    · by_cases q : b = a
      · have y := (if_pos q).symm.trans z
        cases y
        subst q
        exact ⟨ha, by rw [List.length_map]; exact hl, vs, _, rv, ha⟩
      · have y := (if_neg q).symm.trans z
        cases y
    · by_cases q : b = a
      · exact q
      · exact absurd (if_neg q) z

/-- what k_head leaves, from a law that is a FnG -/
theorem walk_g {l : PySem.W.OpenLaw} {n k : Nat} {q : Program} {loose : List Str} {XP : (Str → Option Value) → Heap → Prop} {YP : World → Heap → Prop} {d : DefRec}
    {K : Params → PySem.W.Frag} {sp : PySem.W.Frag → Sp} {x : Str} (hn : l.most = some n) (hn2 : n ≤ sizeLine) (hdf : d.params.defaults = []) (hr : Room k callerA)
    (hY : ∀ (w : World) (h : Heap), YP w h → (K w.params).In h)
    (F : ∀ (w : World) (mg : Str → Option Value) (fa : Addr) (h : Heap), (K w.params).In h → h.Ns mainGlobals mg → mg d.name = some (.ref fa) →
      ∃ fd : FuncData, (∀ (s : Shared) (u : Value), BindsTo s fd ⟨[u], []⟩ [(x, u)]) ∧
        ∀ base : Heap, (K w.params).In base → base.Ns mainGlobals mg → FnG l.prog w (K w.params) mg base CX0 k fa fd [x] (sp (K w.params)))
    (hsp : ∀ (K : PySem.W.Frag) (H : Hp) (a : Addr) (ns : List Int), ns.length ≤ n → SqL K H a (ns.map V.int) → sp K [.ref a] H (fun v _ => v = .bl true) fun _ _ _ => False) :
    PySem.W.WalkO q loose XP YP l.row.toRowW d [] (fun f vs => PySem.call f vs) := by
  refine Att.attach_call hn hdf ?_
  intro w s₀ s₁ mg mb fa o pm cd doc a vs ns G Y ho hd hcd hmg hobj hints hlen hg
  have kin := hY w _ Y
  obtain ⟨fd, hb, hF⟩ := F w mg fa _ kin G.T.g hmg
  exact end_g kin G.T.g G.T.b G.T.builtins G.T.nolimit hg hobj hints (Nat.le_trans hlen hn2) hr hF hb (fun H _ hS => hsp _ H a ns hlen hS) (fun _ _ _ z => z)
end Gy

/-! An own exception class called with keywords: BaseException.__new__ takes them and forgets them, the own __init__ gets them. -/
namespace PySem
namespace Xg
open Builtin Builtin.ObjectAttr
section
variable {M : Model} {A : Around} {E : Value → Shared → Prop} {h : Heap} {g : Array GenState} {d : Drawn} {t : Nat} {os : OsState}
variable {nm q : Str} {C N : Addr} {bs bm bmB : List Value} {hdct : Bool} {sn : List Str} {sub : List Value} {ab : Bool} {col : Option Bool} {dd : Option Addr} {k0 k1 k2 k3 k5 : Option Value} {B newId initId : String}
theorem kw_check (F : ExcBaseFacts B newId initId bmB) (hT : ∀ X : String, bm.contains (.type X) = bmB.contains (.type X)) {us : List Value} {kw : List (Str × Value)} {Q : Unit → Shared → Prop}
    (cl : h.get? C = some (excClassObj nm q C N bs bm hdct sn sub ab col dd k0 k1 k2 k3 k5 newId)) (z : Q () ⟨h, g, d, t, os⟩) :
    wpAny M A (checkBuiltinCall newId ⟨.ref C :: us, kw⟩) Q E ⟨h, g, d, t, os⟩ := by
  have has : (Value.ref C :: bm).contains (.type B) = true := by
    rw [List.contains_cons, hT, F.hasB, Bool.or_true]
  have star := F.noStar
  simp only [checkBuiltinCall, F.newKind, F.newSplit, F.newRow]
  repeat (first
    | refine wpAny_loadPart_at cl ?_
    | (refine wpAny_isSubtype_exc cl ?_; rw [has])
    | refine wpAny_staticBase_exc cl ?_
    | refine wpAny_madeBy_exc cl ?_
    | simp only [bne_self_eq_false, Bool.false_eq_true, if_false]
    | wp_step)
  exact z
end
section
variable {prog : Program} {w : World} {A : Around} {E : Value → Shared → Prop} {R : Result → Shared → Prop} {h : Heap} {g : Array GenState} {d : Drawn} {t : Nat} {os : OsState}
variable {nm q : Str} {C N : Addr} {bs bm bmB : List Value} {hdct : Bool} {sn : List Str} {sub : List Value} {ab : Bool} {col : Option Bool} {dd : Option Addr} {k0 k1 k2 k3 k5 : Option Value} {B newId initId : String}
theorem kw_new (F : ExcBaseFacts B newId initId bmB) (hT : ∀ X : String, bm.contains (.type X) = bmB.contains (.type X)) {us : List Value} {kw : List (Str × Value)}
    (cl : h.get? C = some (excClassObj nm q C N bs bm hdct sn sub ab col dd k0 k1 k2 k3 k5 newId))
    (z : R (.ok (.ret (.ref (h.objs.size + 1)))) ⟨(h.push (W.kdv_tup us)).push (PX.excO C h.objs.size), g, d, t, os⟩) (len : us.length ≤ sizeLine) :
    codeAny (model prog w) A (.builtin newId ⟨.ref C :: us, kw⟩) R ⟨h, g, d, t, os⟩ := by
  have ends := F.ends
  have hB : (Value.ref C :: bm).contains (.type B) = true := by
    rw [List.contains_cons, hT, F.hasB, Bool.or_true]
  have hA : (Value.ref C :: bm).contains (.type "AttributeError") = false := by
    rw [List.contains_cons, hT, F.noAttr]
    rfl
  have hN : (Value.ref C :: bm).contains (.type "NameError") = false := by
    rw [List.contains_cons, hT, F.noName]
    rfl
  refine codeAny_builtinAt F.entry ?_
  unfold Builtin.«BaseException.__new__»
  refine wpAt_bind ?_
  show wpAt _ _ _ (stack >>= _) _ _ _
  refine wpAt_bind (wpAt_stack fun p below => wpAt_of_wpAny ?_)
  wp_walk
  refine wpAt_of_wpAny ?_
  rw [F.owner]
  repeat (first
    | with_reducible refine wpAny_madeHere_exc F.canon cl ?_
    | with_reducible refine wpAny_loadPart_at cl ?_
    | (with_reducible refine wpAny_isSubtype_exc cl ?_; first | rw [hB] | rw [hA] | rw [hN])
    | wp_step)
  show R _ _
  rw [Heap.size_push]
  exact z
theorem kw_type (F : ExcBaseFacts B newId initId bmB) (hT : ∀ X : String, bm.contains (.type X) = bmB.contains (.type X)) {us : List Value} {kw : List (Str × Value)} {fI : Addr} {Q : Fin → Shared → Prop}
    (cl : h.get? C = some (excClassObj nm q C N bs bm hdct sn sub ab col dd k0 k1 k2 k3 k5 newId))
    (hi : W.Looks (model prog w) h (typeLookup (.ref C) "__init__") (some (.ref fI))) (hb : ∀ self, W.Looks (model prog w) h (bindSpecial (.ref fI) self) (.ref fI, [self]))
    (len : us.length ≤ sizeLine)
    (z : codeAny (model prog w) A (.call (.ref fI) ⟨.ref (h.objs.size + 1) :: us, kw⟩)
      (fun r s' => match r with | .ok (.ret v) => v = .none ∧ Q (.done (.ret (.ref (h.objs.size + 1)))) s' | .ok _ => False | .error e => E e s')
      ⟨(h.push (W.kdv_tup us)).push (PX.excO C h.objs.size), g, d, t, os⟩) :
    wpAny (model prog w) A (Builtin.«type.__call__» ⟨.ref C :: us, kw⟩) Q E ⟨h, g, d, t, os⟩ := by
  repeat (first
    | with_reducible refine wpAny_loadPart_at cl ?_
    | with_reducible refine wpAny_madeBy_exc cl ?_
    | wp_step)
  refine codeAny_call_builtin_code (Code.quiet_builtin _ F.quiet) (kw_check F hT cl ?_)
  refine kw_new F hT cl ?_ len
  show wpAny _ _ _ _ _ _
  have keep : ∀ b o, h.get? b = some o → ((h.push (W.kdv_tup us)).push (PX.excO C h.objs.size)).get? b = some o := fun b o e =>
    Heap.get?_push_of_some _ (Heap.get?_push_of_some _ e)
  have cl1 := keep _ _ cl
  have new : ((h.push (W.kdv_tup us)).push (PX.excO C h.objs.size)).get? (h.objs.size + 1) = some (PX.excO C h.objs.size) := by heap_get
  have self : (Value.ref C :: bm).contains (.ref C) = true := by simp
  have i1 := hi.keeps keep
  have b1 := (hb (.ref (h.objs.size + 1))).keeps keep
  unfold isInstance
  repeat (first
    | with_reducible refine wpAny_loadPart_at new ?_
    | (with_reducible refine wpAny_isSubtype_exc cl1 ?_; rw [self])
    | wp_step)
  show wpAny _ _ (typeLookup (.ref C) _) _ _ _
  refine i1.at ?_
  refine wpAny_holding (wpAny_bind (b1.at ?_))
  refine wpAny_bind (wpAny_call (codeAny_mono z fun r s' y => ?_))
  rcases r with e | (v | _ | _ | _) <;> first | exact y | exact y.elim | skip
  obtain ⟨rfl, y⟩ := y
  first
    | exact wpAny_pure (wpAny_pure y)
    | (wp_walk; exact y)
theorem kw_call (F : ExcBaseFacts B newId initId bmB) (hT : ∀ X : String, bm.contains (.type X) = bmB.contains (.type X)) {us : List Value} {kw : List (Str × Value)} {fI : Addr}
    (cl : h.get? C = some (excClassObj nm q C N bs bm hdct sn sub ab col dd k0 k1 k2 k3 k5 newId))
    (hi : W.Looks (model prog w) h (typeLookup (.ref C) "__init__") (some (.ref fI))) (hb : ∀ self, W.Looks (model prog w) h (bindSpecial (.ref fI) self) (.ref fI, [self]))
    (len : us.length ≤ sizeLine)
    (z : codeAny (model prog w) (A.under (.builtin "type.__call__" ⟨.ref C :: us, kw⟩)) (.call (.ref fI) ⟨.ref (h.objs.size + 1) :: us, kw⟩) (W.InitBack (h.objs.size + 1) R)
      ⟨(h.push (W.kdv_tup us)).push (PX.excO C h.objs.size), g, d, t, os⟩) :
    codeAny (model prog w) A (.call (.ref C) ⟨us, kw⟩) R ⟨h, g, d, t, os⟩ := by
  have f1 := tc_lookup
  have f2 := tc_bind (.ref C)
  have ty : (⟨h, g, d, t, os⟩ : Shared).TypeIs (.ref C) "type" := ⟨_, cl, rfl⟩
  refine codeAny_of_tree ?_
  show wpAny _ _ (callAny (.ref C) _) _ _ _
  repeat (any_goals (first | assumption | with_reducible refine wpAny_loadPart_at cl ?_ | wp_step))
  refine ⟨rfl, ?_⟩
  refine codeAny_call_builtin_at (Code.quiet_builtin _ (by decide +kernel)) entry_typeCall (wpAny_check_type_call_sub cl (kw_type F hT cl hi hb len ?_))
  refine codeAny_mono z fun r s' y => ?_
  rcases r with e | (v | _ | _ | _) <;> exact y
end
end Xg
end PySem

/-! Own exception classes over any built-in base, made as values: by position, by name; their fields stored and read; isinstance. -/
namespace PySem
namespace Xg
open PySem.W PySem.Calls PyProof.Rows Builtin Builtin.ObjectAttr
section
variable {prog : Program} {w : World} {A : Around} {R : Result → Shared → Prop} {hp : Heap} {g : Array GenState} {d : Drawn} {t : Nat} {os : OsState} {K : Frag} {B : String} {bmB : List Value}
/-- the first field: the dict is made -/
theorem osa_first (SF : StoreFacts B bmB "object.__setattr__" "object") {name : Str} {tk : Tok} {v : Value} {x C t1 : Addr} (kin : K.In hp)
    (at_ : hp.get? x = some (PX.excO C t1)) (ov : excOver K C bmB = true) (no : takerIn K C name = some none) (hh : hasDictIn K C = true)
    (z : ∀ h' tk' dx, (∀ b o, b ≠ x → hp.get? b = some o → h'.get? b = some o) → hp.objs.size ≤ dx → dx ≠ x →
      h'.get? x = some { PX.excO C t1 with dict := some dx } → h'.Ns1 dx (fun y => if y = name then some v else none) → R (.ok (.ret .none)) ⟨h', g, d, tk', os⟩) :
    codeAny (model prog w) A (.call (.builtin "object.__setattr__") ⟨[.ref x, .str name tk, v], []⟩) R ⟨hp, g, d, t, os⟩ := by
  obtain ⟨cd, hc, hd'⟩ := any_some hh
  have lt := Heap.lt_size at_
  refine osa_openX (od := none) (s := ⟨hp, g, d, t, os⟩) SF kin ⟨at_, rfl, rfl, trivial⟩ ov no fun b => ?_
  refine wpAny_bind (wpAny_pure (wpAny_bind (instanceDict_exc (s := ⟨hp, g, d, t, os⟩) (c2 := .none) at_ (looks_clsIn kin hc) hd' ?_)))
  show wpAny _ _ (storeInDict hp.objs.size (.str name tk) name v) _ _ _
  refine HandSPX.store_in_new ?_ fun h' tk' hn hs => ?_
  · exact ⟨_, #[], _, (Heap.get?_update_ne _ _ _ _ (Nat.ne_of_gt lt)).trans (Heap.get?_push_at rfl rfl), rfl, fun e he => absurd he (by simp), fun _ => rfl⟩
  · refine z h' tk' hp.objs.size (fun b o nb e => ?_) (Nat.le_refl _) (Nat.ne_of_gt lt) ?_ hn
    · rw [hs.2 b (Nat.ne_of_lt (Heap.lt_size e)), Heap.get?_update_ne _ _ _ _ nb]
      exact Heap.get?_push_of_some _ e
    · rw [hs.2 x (Nat.ne_of_lt lt)]
      exact Heap.get?_update_self _ (Heap.get?_push_of_some _ at_) rfl
/-- a further field -/
theorem osa_next (SF : StoreFacts B bmB "object.__setattr__" "object") {name : Str} {tk : Tok} {v : Value} {x C t1 dx : Addr} {m0 : Str → Option Value} {nl : List Str} (kin : K.In hp)
    (at_ : hp.get? x = some { PX.excO C t1 with dict := some dx }) (ns : hp.Ns1 dx m0) (wi : Within m0 nl) (few : nl.length ≤ 1000)
    (ov : excOver K C bmB = true) (no : takerIn K C name = some none) (hh : hasDictIn K C = true)
    (z : ∀ h' tk', (∀ b o, b ≠ dx → hp.get? b = some o → h'.get? b = some o) → h'.Ns1 dx (fun y => if y = name then some v else m0 y) → R (.ok (.ret .none)) ⟨h', g, d, tk', os⟩) :
    codeAny (model prog w) A (.call (.builtin "object.__setattr__") ⟨[.ref x, .str name tk, v], []⟩) R ⟨hp, g, d, t, os⟩ := by
  obtain ⟨cd, hc, hd'⟩ := any_some hh
  obtain ⟨oD, _, _, gD, _, _⟩ := ns.count wi
  refine osa_openX (od := some oD) (s := ⟨hp, g, d, t, os⟩) SF kin ⟨at_, rfl, rfl, gD⟩ ov no fun b => ?_
  refine wpAny_bind (wpAny_pure (wpAny_bind (wpAny_bind (wpAny_loadPart at_ (wpAny_bind ((looks_clsIn kin hc).here ?_))))))
  rw [hd']
  refine wpAny_pure (a := some dx) ?_
  exact OEX.store_in_old ns wi few fun h' tk' hn hs => z h' tk' (fun b o nb e => (hs.2 b nb).trans e) hn
end
end Xg
end PySem

namespace Xl
open PySem PySem.Spec PyProof.Rows L2 Gy
/-- what the written part says of an own exception class at C -/
structure XCl (K : PySem.W.Frag) (C : Addr) : Prop where
  base : ∃ B newId initId bmB, ExcBaseFacts B newId initId bmB ∧ StoreFacts B bmB "object.__setattr__" "object" ∧ PySem.W.excInitIn K C bmB newId = true ∧ PySem.W.excOver K C bmB = true
  sa : PySem.W.findIn K (.ref C) "__setattr__" = some (some (.builtin "object.__setattr__"))
  ga : PySem.W.findIn K (.ref C) "__getattribute__" = some (some (.builtin "BaseException.__getattribute__"))
  gg : PySem.W.findIn K (.ref C) "__getattr__" = some none
  ca : PySem.W.findIn K (.ref C) "__class__" = some (some (.builtin "object.__class__"))
  ex : PySem.W.subIn K (.ref C) (.type "BaseException") = some true
  ob : PySem.W.mroIn K C (.type "object") = some true
  hd : PySem.W.hasDictIn K C = true
  kp : PySem.W.keepIn K (.ref C) = true
/-- its __init__ stands at fI -/
structure XIn (K : PySem.W.Frag) (C fI : Addr) : Prop extends XCl K C where
  ini : PySem.W.findIn K (.ref C) "__init__" = some (some (.ref fI))
  tf : PySem.W.typeIn K (.ref fI) = some (.type "function")
section
variable {X : Cx} {pins : List (Addr × Obj)} {σ : L2.St} {H : Hp} {s : Shared} {a C dx : Addr} {f : Str} {y : V} {u : Value} {fs : List (Str × V)} {Q : Unit → Shared → Prop} {E : Value → Shared → Prop} {A : Around}
theorem set_new (T : XCl X.K C) (I : Inv X pins σ H s) (e : H a = some (exo a C none)) (no : PySem.W.findIn X.K (.ref C) f = some none) (ry : RelV y u)
    (z : ∀ dx s', H dx = none → dx ≠ a → Inv X pins σ (upd (upd H dx (exd dx [(f, y)])) a (exo a C (some dx))) s' → Q () s') :
    wpAny (model X.prog X.w) A (setAttr (.ref a) f u) Q E s := by
  obtain ⟨B, nI, iI, bmB, _, SF, _, ov⟩ := T.base
  obtain ⟨t1, at_⟩ := exo_at I.hok e
  obtain ⟨hp, g, d, t, os⟩ := s
  have tk : PySem.W.takerIn X.K C f = some none := by
    unfold PySem.W.takerIn
    rw [no]
    rfl
  refine PySem.W.set_plain I.kIn (od := none) ⟨at_, rfl, rfl, trivial⟩ T.sa ?_
  refine PySem.Xg.osa_first SF I.kIn at_ ov tk T.hd ?_
  intro h' tk' dx keep big ne atX ns
  have free : H dx = none := I.hok.fresh big
  have old : ∀ {b o}, hp.get? b = some o → b ≠ dx := fun q => Nat.ne_of_lt (Nat.lt_of_lt_of_le (Heap.lt_size q) big)
  have noA : ∀ {b}, H b = none → b ≠ a := fun {b} n y => by
    rw [y, e] at n
    cases n
  have other : ∀ {b o}, H b = some o → o ≠ exo a C none → upd (upd H dx (exd dx [(f, y)])) a (exo a C (some dx)) b = some o := by
    intro b o q ne'
    have nb : b ≠ a := fun y => by
      rw [y, e] at q
      exact ne' (Option.some.inj q).symm
    rw [upd_ne nb, upd_ne (ne_of_none q free)]
    exact q
  have U : Un X.fs [] H (upd (upd H dx (exd dx [(f, y)])) a (exo a C (some dx))) hp h' := by
    refine ⟨fun b o q n _ _ => keep b o (noA n) q, fun b o q n _ _ => ⟨o.slots, keep b o (noA n) q⟩, fun b o q n _ => ?_, fun b o q _ => ?_, fun b xs q => ?_, fun b o v q => ?_, fun b ps q => ⟨#[], ?_⟩⟩
    · rw [upd_ne (noA n), upd_ne (old q)]
      exact n
    · by_cases nb : b = a
      · exact ⟨_, by rw [nb]; exact atX⟩
      · exact ⟨o, keep b o nb q⟩
    · exact other q (fun y => exo_tup y.symm)
    · exact other q (fun y => exo_frz y.symm)
    · rw [other q (fun y => exo_tbl y.symm)]
      simp
  refine z dx _ free ne (I.un (t' := tk') U ?_)
  intro b o q
  by_cases nb : b = a
  · subst nb
    rw [upd_same] at q
    cases q
    exact exo_ok atX
  · rw [upd_ne nb] at q
    by_cases nd : b = dx
    · subst nd
      rw [upd_same] at q
      cases q
      exact exd_ok ns (relO_put (fs := []) ry fun _ => True.intro)
    · rw [upd_ne nd] at q
      refine (I.hok b o q).stay (fun c v hc y => keep c v ?_ y) (fun c hc => other hc (fun y => exo_own y.symm)) (fun c xs hc => other hc (fun y => exo_tup y.symm))
      rcases hc with hc | hc
      · rw [hc]
        exact nb
      · exact at_ne e hc exo_own
theorem set_more (T : XCl X.K C) (I : Inv X pins σ H s) (e : H a = some (exo a C (some dx))) (ed : H dx = some (exd dx fs)) (few : fs.length ≤ 900) (no : PySem.W.findIn X.K (.ref C) f = some none) (ry : RelV y u)
    (z : ∀ s', Inv X pins σ (upd H dx (exd dx ((f, y) :: fs))) s' → Q () s') : wpAny (model X.prog X.w) A (setAttr (.ref a) f u) Q E s := by
  obtain ⟨B, nI, iI, bmB, _, SF, _, ov⟩ := T.base
  obtain ⟨t1, at_⟩ := exo_at I.hok e
  obtain ⟨mA, ns, rel⟩ := exd_at I.hok ed
  have wi := within_of rel
  obtain ⟨hp, g, d, t, os⟩ := s
  obtain ⟨oD, _, _, gD, _, _⟩ := ns.count wi
  have tk : PySem.W.takerIn X.K C f = some none := by
    unfold PySem.W.takerIn
    rw [no]
    rfl
  refine PySem.W.set_plain I.kIn (od := some oD) ⟨at_, rfl, rfl, gD⟩ T.sa ?_
  refine PySem.Xg.osa_next SF I.kIn at_ ns wi (by rw [List.length_map]; omega) ov tk T.hd ?_
  intro h' tk' keep hn
  have there : ∃ o, h'.get? dx = some o := by
    obtain ⟨o, _, _, q, _⟩ := hn
    exact ⟨o, q⟩
  exact z _ (I.write (t' := tk') (x := dx) (e := dx) (o := exd dx ((f, y) :: fs)) (by rw [ed]; trivial) (.inl rfl) keep there (exd_ok hn (relO_put ry rel)))
end
/-! ### readings and rules -/
/-- self.f = e in such an __init__ -/
def tXs (K : PySem.W.Frag) (f : Str) (to te : TE) : TS := fun D σ H => te σ H fun y H1 => to σ H1 fun x H2 => ∃ a C : Addr, x = .ref a ∧ XCl K C ∧ PySem.W.findIn K (.ref C) f = some none ∧
  ((H2 a = some (exo a C none) ∧ ∀ dx, H2 dx = none → dx ≠ a → D.nx σ (upd (upd H2 dx (exd dx [(f, y)])) a (exo a C (some dx)))) ∨
    ∃ (dx : Addr) (fs : List (Str × V)), H2 a = some (exo a C (some dx)) ∧ H2 dx = some (exd dx fs) ∧ fs.length ≤ 900 ∧ D.nx σ (upd H2 dx (exd dx ((f, y) :: fs))))
/-- C(..): the object made, then __init__ -/
def tXm (C : Addr) (sp : Sp) (gV : List V → List V → List V) (t tk : TA) : TE := fun σ H Q => t σ H fun vs H0 => tk σ H0 fun zs H1 => vs.length ≤ 1000 ∧ ∀ a, H1 a = none →
  sp (.ref a :: gV vs zs) (upd H1 a (exo a C none)) (fun v H2 => v = .non ∧ Q (.ref a) H2) (fun _ _ _ => False)
section
variable {X : Cx} {o e : Expr} {es : List Expr} {kws : List Keyword} {to te : TE} {t tk : TA} {f : Str} {p p' pos : Pos}
theorem ps_xs (ho : PE X o to) (he : PE X e te) (hs : swapsWith e (some (.Attribute o f p')) pos.line X.env = pure false := by rfl) : PS X (.Assign [.Attribute o f p'] e pos) (tXs X.K f to te) := by
  constructor
  intro pins s σ H D I h
  refine plainObj_wpAny_Assign_Attribute (thn (he.run pins s σ H _ I h) ?_) hs
  rintro v s1 ⟨y, H1, I1, r1, q1⟩
  refine thn (ho.run pins s1 σ H1 _ I1 q1) ?_
  rintro u s2 ⟨x, H2, I2, r2, a, C, rfl, T, no, q⟩
  cases r2
  rcases q with ⟨ea, q⟩ | ⟨dx, fs, ea, ed, few, q⟩
  · exact set_new T I2 ea no r1 fun dx s' n ne J => ⟨σ, _, J, q dx n ne⟩
  · exact set_more T I2 ea ed few no r1 fun s' J => ⟨σ, _, J, q⟩
/-- how positional values and keywords come to __init__'s parameters -/
structure XB (K : PySem.W.Frag) (fd : FuncData) (ps ks : List Str) (g : List Value → List Value → List Value) (gV : List V → List V → List V) : Prop where
  to : ∀ (s : Shared) (b : Value) (us ws : List Value), K.In s.heap → (b :: g us ws).length = ps.length → BindsTo s fd ⟨b :: us, ks.zip ws⟩ (ps.zip (b :: g us ws))
  rel : ∀ {vs : List V} {us : List Value} {zs : List V} {ws : List Value}, Vals vs us → Vals zs ws → Vals (gV vs zs) (g us ws)
variable {CX : CXT} {C fI : Addr} {k : Nat} {fd : FuncData} {ps ks : List Str} {sp : Sp} {g : List Value → List Value → List Value} {gV : List V → List V → List V} {x : Str}
theorem run_x {pins : List (Addr × Obj)} {σ : L2.St} {H : Hp} {s : Shared} {Q : VK} {us ws : List Value} {vs zs : List V} (T : XIn X.K C fI) (F : FnOk X.prog X.w X.K X.mg X.base CX k fI fd ps sp) (hr : Room (k + 1) X.A)
    (hb : XB X.K fd ps ks g gV) (hx : Passes CX X (fun _ _ _ => False)) (I : Inv X pins σ H s) (r : Vals vs us) (rz : Vals zs ws) (len : vs.length ≤ 1000)
    (h : ∀ a, H a = none → sp (.ref a :: gV vs zs) (upd H a (exo a C none)) (fun v H2 => v = .non ∧ Q (.ref a) H2) (fun _ _ _ => False)) :
    wpAny (model X.prog X.w) X.A (call (.ref C) us (ks.zip ws)) (EP X pins σ Q) X.xe s := by
  obtain ⟨B, nI, iI, bmB, BF, _, ii, _⟩ := T.base
  obtain ⟨nm, N', qn, bs, bm, hdct, sn, sub, ab, col, dd, k0, k1, k2, k3, k5, cl, hT⟩ := PySem.W.excInit_of I.kIn ii
  obtain ⟨hp, g', dr, tk', os⟩ := s
  have big : hp.objs.size ≤ hp.objs.size + 1 := Nat.le_succ _
  have hq := h (hp.objs.size + 1) (I.hok.fresh big)
  have keep : ∀ b o, hp.get? b = some o → ((hp.push (PySem.W.kdv_tup us)).push (PySem.PX.excO C hp.objs.size)).get? b = some o := fun b o e =>
    Heap.get?_push_of_some _ (Heap.get?_push_of_some _ e)
  have new : ((hp.push (PySem.W.kdv_tup us)).push (PySem.PX.excO C hp.objs.size)).get? (hp.objs.size + 1) = some (PySem.PX.excO C hp.objs.size) := by heap_get
  have I2 := I.laid (t' := tk') (a := hp.objs.size + 1) (o := exo (hp.objs.size + 1) C none) keep big (exo_ok new)
  have r2 : Vals (V.ref (hp.objs.size + 1) :: gV vs zs) (Value.ref (hp.objs.size + 1) :: g us ws) := .cons rfl (hb.rel r rz)
  have bl := hb.to ⟨_, g', dr, tk', os⟩ (Value.ref (hp.objs.size + 1)) us ws I2.kIn (by rw [← r2.length]; exact F.len _ _ _ _ hq)
  refine wpAny_call (PySem.Xg.kw_call BF hT cl (PySem.W.looks_findIn I.kIn T.ini) (fun self => PySem.W.bind_fn I.kIn self T.tf) ?_ (codeAny_mono (F.run _ X.stack _ _ _ _ _ _ _ (hr.make C us (ks.zip ws)) (I2.env0.make C us (ks.zip ws)) bl r2 hq) ?_))
  · rw [← r.length, sizeLine_eq]
    omega
  · rintro (er | (_ | _ | _ | u)) s' z
    · exact hx pins σ _ _ er s' I2 z
    · exact z.elim
    · exact z.elim
    · exact z.elim
    · obtain ⟨v, H', I3, rv, ev, q3⟩ := I2.after z
      subst ev
      exact ⟨rv, V.ref (hp.objs.size + 1), H', I3, rfl, q3⟩
theorem pe_xm (T : XIn X.K C fI) (F : FnOk X.prog X.w X.K X.mg X.base CX k fI fd ps sp) (hr : Room (k + 1) X.A) (hg : Gl X x) (hm : X.mg x = some (.ref C)) (hb : XB X.K fd ps [] g gV) (hx : Passes CX X (fun _ _ _ => False))
    (ha : PA X (e :: es) t) (hdb : (x == ("__debug__" : Str)) = false := by decide) (he : starEach (e :: es) X.env = (false, eval e X.env) :: starEach es X.env := by rfl)
    (hpl : (backTo pos (starEach es X.env)).any (·.1) = false := by rfl) : PE X (.Call (.Name x p) (e :: es) [] pos) (tXm C sp gV t tNil) := by
  constructor
  intro pins s σ H Q I h
  refine wpAny_Call_Name_kw (ld_glob I hg hm ?_ hdb)
  refine PySem.W.callWith_K (h₀ := X.base) I.ok.mod.kin T.kp (thn (ha.run pos pins s σ H _ I h) ?_) he hpl
  rintro us s1 ⟨vs, H1, I1, r, q⟩
  obtain ⟨len, q⟩ := q
  exact ⟨I1.kIn, run_x (ks := []) (ws := []) T F hr hb hx I1 r .nil len q⟩
theorem pe_xm0 (T : XIn X.K C fI) (F : FnOk X.prog X.w X.K X.mg X.base CX k fI fd ps sp) (hr : Room (k + 1) X.A) (hg : Gl X x) (hm : X.mg x = some (.ref C)) (hb : XB X.K fd ps [] g gV) (hx : Passes CX X (fun _ _ _ => False))
    (hdb : (x == ("__debug__" : Str)) = false := by decide) : PE X (.Call (.Name x p) [] [] pos) (tXm C sp gV tNil tNil) := by
  constructor
  intro pins s σ H Q I h
  obtain ⟨len, q⟩ := h
  refine wpAny_Call_Name_kw (ld_glob I hg hm ?_ hdb)
  exact PySem.W.callWith_K0 I.kIn T.kp (run_x (us := []) (ks := []) (ws := []) T F hr hb hx I .nil .nil len q)
theorem pe_xk (T : XIn X.K C fI) (F : FnOk X.prog X.w X.K X.mg X.base CX k fI fd ps sp) (hr : Room (k + 1) X.A) (hg : Gl X x) (hm : X.mg x = some (.ref C)) (hb : XB X.K fd ps ks g gV) (hx : Passes CX X (fun _ _ _ => False))
    (hkw : PK X kws tk) (hall : (backToKw pos (keywordEach kws X.env)).all (·.1.isSome) = true := by rfl) (hks : (backToKw pos (keywordEach kws X.env)).filterMap (·.1) = ks := by rfl)
    (hdb : (x == ("__debug__" : Str)) = false := by decide)
    (hpl : ((backTo pos (starEach [] X.env)).any (·.1) || (backToKw pos (keywordEach kws X.env)).any (·.1.isNone)) = false := by rfl) :
    PE X (.Call (.Name x p) [] kws pos) (tXm C sp gV tNil tk) := by
  constructor
  intro pins s σ H Q I h
  refine wpAny_Call_Name_kw (ld_glob I hg hm ?_ hdb)
  refine PySem.W.callWith_KW0 (h₀ := X.base) I.ok.mod.kin T.kp hall (thn (hkw.run pos pins s σ H _ I h) ?_) hpl
  rintro ws s2 ⟨zs, H2, I2, rz, len, q2⟩
  rw [hks]
  exact ⟨I2.kIn, run_x (us := []) T F hr hb hx I2 .nil rz len q2⟩
/-- an exception of the class C stands at a, its fields fs -/
def XAt (K : PySem.W.Frag) (H : Hp) (a C : Addr) (fs : List (Str × V)) : Prop := XCl K C ∧ ((fs = [] ∧ H a = some (exo a C none)) ∨ ∃ d, H a = some (exo a C (some d)) ∧ H d = some (exd d fs))
/-- e.f -/
def tXf1 (K : PySem.W.Frag) (f : Str) (te : TE) : TE := fun σ H Q => te σ H fun x H1 => ∃ (a C : Addr) (fs : List (Str × V)) (v : V), x = .ref a ∧ XAt K H1 a C fs ∧ PySem.W.findIn K (.ref C) f = some none ∧ fs.lookup f = some v ∧ Q v H1
theorem pe_xf1 {n : Str} (he : PE X e te) (hb : attributeBase e n X.env (eval e X.env) = eval e X.env := by rfl) : PE X (.Attribute e n pos) (tXf1 X.K n te) := by
  constructor
  intro pins s σ H Q I h
  refine attr_of hb (thn (he.run pins s σ H _ I h) ?_)
  rintro u s1 ⟨x, H1, I1, rx, a, C, fs, v, rfl, ⟨T, at_⟩, no, l, q⟩
  cases rx
  rcases at_ with ⟨rfl, _⟩ | ⟨d, ea, ed⟩
  · cases l
  · obtain ⟨t1, ga⟩ := exo_at I1.hok ea
    obtain ⟨mA, ns, rel⟩ := exd_at I1.hok ed
    obtain ⟨od, go, hl⟩ := lookIn_ns ns
    obtain ⟨u, hu, ru⟩ := RelO.some_of (v := v) (o := mA n) (by rw [← l]; exact rel n)
    exact PySem.PX.exc_get I1.kIn (od := some od) ⟨ga, rfl, rfl, go⟩ T.ga T.gg T.ex (PySem.W.findObj_own T.hd no rfl (by rw [hl, hu])) (handed_of ru) ⟨v, H1, I1.tok _, ru, q⟩
/-- isinstance(e, c) -/
def rIsX (K : PySem.W.Frag) : List V → Hp → VK → Prop := fun xs H Q => ∃ (a C : Addr) (fs : List (Str × V)) (c : V) (cv : Value) (b : Bool), xs = [.ref a, c] ∧ XAt K H a C fs ∧ ClsV c cv ∧ PySem.W.kitOne K (.ref C) cv = some b ∧ Q (.bl b) H
theorem call_isX (cg : PySem.W.specialIn X.K (.builtin "object.__class__") "__get__" = some (some (.builtin "getset_descriptor.__get__"))) (ct : PySem.W.takesIn X.K (.builtin "object.__class__") = some true) :
    CallR X (.builtin "isinstance") (rIsX X.K) := by
  intro pins s σ H xs us Q I r h
  obtain ⟨a, C, fs, c, cv, b, rfl, ⟨T, at_⟩, hc, e, q⟩ := h
  obtain ⟨u1, u2, rfl, r1, r2⟩ := vals2 r
  cases r1
  have e2 := hc.eq r2
  subst e2
  have cls : (PySem.W.clsIn X.K C).isSome = true := by
    obtain ⟨cd, z, _⟩ := PySem.W.any_some T.hd
    rw [z]
    rfl
  have inst : ∃ ox od, PySem.W.InstAt s.heap a ox C od := by
    rcases at_ with ⟨_, ea⟩ | ⟨d, ea, ed⟩
    · obtain ⟨t1, ga⟩ := exo_at I.hok ea
      exact ⟨_, none, ga, rfl, rfl, trivial⟩
    · obtain ⟨t1, ga⟩ := exo_at I.hok ea
      obtain ⟨mA, ns, rel⟩ := exd_at I.hok ed
      obtain ⟨od, go, hl⟩ := lookIn_ns ns
      exact ⟨_, some od, ga, rfl, rfl, go⟩
  obtain ⟨ox, od, J⟩ := inst
  exact PySem.W.kia_one (PySem.W.kitx_exc cls T.ga T.gg T.ex T.ca cg ct T.ob) I.kIn J e (fun z => nomatch z) fun tk => ⟨.bl b, H, I.tok tk, rfl, q⟩
/-- C(e, ..) of a class without an __init__ of its own -/
def tXb (C : Addr) (t : TA) : TE := fun σ H Q => t σ H fun vs H1 => vs.length ≤ 1000 ∧ ∀ a, H1 a = none → Q (.ref a) (upd H1 a (exo a C none))
theorem pe_xb (T : XCl X.K C) (hi : ∃ B newId initId bmB, ExcBaseFacts B newId initId bmB ∧ PySem.W.excInitIn X.K C bmB newId = true ∧ PySem.W.findIn X.K (.ref C) "__init__" = some (some (.builtin initId)))
    (hg : Gl X x) (hm : X.mg x = some (.ref C)) (ha : PA X (e :: es) t) (hdb : (x == ("__debug__" : Str)) = false := by decide)
    (he : starEach (e :: es) X.env = (false, eval e X.env) :: starEach es X.env := by rfl) (hpl : (backTo pos (starEach es X.env)).any (·.1) = false := by rfl) :
    PE X (.Call (.Name x p) (e :: es) [] pos) (tXb C t) := by
  constructor
  intro pins s σ H Q I h
  obtain ⟨B, nI, iI, bmB, BF, ii, fi⟩ := hi
  refine wpAny_Call_Name_kw (ld_glob I hg hm ?_ hdb)
  refine PySem.W.callWith_K (h₀ := X.base) I.ok.mod.kin T.kp (thn (ha.run pos pins s σ H _ I h) ?_) he hpl
  rintro us s1 ⟨vs, H1, I1, r, len, q⟩
  refine ⟨I1.kIn, ?_⟩
  obtain ⟨nm, N', qn, bs, bm, hdct, sn, sub, ab, col, dd, k0, k1, k2, k3, k5, cl, hT⟩ := PySem.W.excInit_of I1.kIn ii
  have lk := PySem.W.looks_findIn (M := model X.prog X.w) I1.kIn fi
  obtain ⟨hp, g', dr, tk', os⟩ := s1
  show wpAny _ _ (call (.ref C) us) _ _ _
  refine PySem.W.call_B BF hT cl lk (by rw [← r.length, sizeLine_eq]; omega) fun h' keep new _ => ?_
  exact ⟨V.ref (hp.objs.size + 1), _, I1.laid (t' := tk') keep (Nat.le_succ _) (exo_ok new), rfl, q _ (I1.hok.fresh (Nat.le_succ _))⟩
end
end Xl

namespace Gy
open PySem PySem.Spec PyProof.Rows L2
/-- data, or a dict without entries, or one whose only key is the text k and whose value is an int -/
inductive Dz (K : PySem.W.Frag) (H : Hp) : V → PyData → Prop
  | dat {v : V} {d : PyData} (h : Dp K H v d) (n : d.hasDict = false) : Dz K H v d
  | d0 {a : Addr} (h : H a = some (.dK [])) : Dz K H (.ref a) (.dict [])
  | d1 {a : Addr} {k : Str} {i : Int} (h : H a = some (.dK [(Sum.inr k, .int i)])) : Dz K H (.ref a) (.dict [(.str k, .int i)])
theorem Dz.reads {X : Cx} {pins : List (Addr × Obj)} {σ : L2.St} {H : Hp} {s : Shared} (I : Inv X pins σ H s) {v : V} {d : PyData} {u : Value} (h : Dz X.K H v d) (r : RelV v u) :
    ∃ as, Reads s.heap u d as ∧ (d.hasDict = true → sysModules ∉ as) := by
  cases h with
  | dat h n =>
    obtain ⟨as, z⟩ := Dp.reads I d v u h r
    exact ⟨as, z, fun q => by rw [n] at q; cases q⟩
  | @d0 a h =>
    cases r
    obtain ⟨_, ns, vs, kv, o, es, ep, g1, ex, g2, ks, ps, _⟩ := (show ObjOk X.prog X.w H s.heap a (.dK []) from I.hok a _ h)
    cases kv
    have e : es.toList = [] := by
      generalize es.toList = l at ps
      cases ps
      rfl
    refine ⟨_, .dict g1 ex.1 g2 (as := []) (bs := []) (by rw [e]; exact .nil) (by rw [e]; exact .nil), fun _ q => ?_⟩
    rw [List.append_nil, List.mem_singleton] at q
    rw [← q] at ns
    cases ns
  | @d1 a k i h =>
    cases r
    obtain ⟨_, ns, vs, kv, o, es, ep, g1, ex, g2, ks, ps, _⟩ := (show ObjOk X.prog X.w H s.heap a (.dK [(Sum.inr k, .int i)]) from I.hok a _ h)
    obtain ⟨t1, t2, e1, e2⟩ : ∃ t1 t2, es.toList.map (·.key) = [.str k t1] ∧ es.toList.map (·.val) = [.int i t2] := by
      generalize es.toList = l at ps
      cases kv with
      | cons hk hr =>
        cases hr
        obtain ⟨h1, h2⟩ := hk
        cases ps with
        | cons p1 p2 p3 =>
          cases p3
          rw [← h1] at p1
          rcases keyIs_shape (show keyIs (Sum.inr k) _ = true from p1) with ⟨j, t, q, _⟩ | ⟨x, t, q, q2⟩
          · cases q
          · cases q
            obtain ⟨t2, h2⟩ := h2
            refine ⟨t, t2, ?_, ?_⟩
            · rw [List.map_singleton, q2]
            · rw [List.map_singleton, p2, h2]
    refine ⟨_, .dict g1 ex.1 g2 (as := [] ++ []) (bs := [] ++ []) (by rw [e1]; exact .cons (.str k t1) .nil) (by rw [e2]; exact .cons (.int i t2) .nil), fun _ q => ?_⟩
    have q' : sysModules ∈ [a] := q
    rw [List.mem_singleton] at q'
    rw [← q'] at ns
    cases ns
/-- each of them shown -/
theorem shows_all {X : Cx} {pins : List (Addr × Obj)} {σ : L2.St} {H : Hp} {s : Shared} (I : Inv X pins σ H s) : ∀ {vs : List V} {ds : List PyData} {us : List Value}, Paired (Dz X.K H) vs ds → Vals vs us →
    PyData.showableAll ds = true → (∀ t ∈ PyData.shownAll ds, t.length ≤ sizeLine) →
    ∃ as bs, ReadsAll s.heap us ds as ∧ ReadAtMost s.heap (PyData.depthAll ds) bs ∧ ReprAllK X.prog X.w bs s.heap (PyData.depthAll ds) us (PyData.shownAll ds)
  | _, _, _, .nil, .nil, _, _ => ⟨[], [], .nil, (fun _ h => nomatch h), .nil⟩
  | _, _, _, .cons (b := d) (l₂ := ds) h hs, .cons r rs, sh, len => by
    have sh2 : d.showable = true ∧ PyData.showableAll ds = true := by simpa only [PyData.showableAll, Bool.and_eq_true] using sh
    obtain ⟨as, rd, no⟩ := h.reads I r
    obtain ⟨b1, m1, k1⟩ := ReprK.of_reads (prog := X.prog) (w := X.w) rd sh2.1 no (len _ List.mem_cons_self)
    obtain ⟨as2, b2, rd2, m2, k2⟩ := shows_all I hs rs sh2.2 fun t ht => len t (List.mem_cons_of_mem _ ht)
    have l1 : d.depth ≤ PyData.depthAll (d :: ds) := Nat.le_max_left _ _
    have l2 : PyData.depthAll ds ≤ PyData.depthAll (d :: ds) := Nat.le_max_right _ _
    refine ⟨as ++ as2, b1 ++ b2, .cons rd rd2, (m1.mono l1).append (m2.mono l2), ?_⟩
    exact .cons ((k1.more fun b hb => List.mem_append_left _ hb).level_le l1) (k2.more_le (fun b hb => List.mem_append_right _ hb) l2)
/-- repr of a list of such values -/
def rRepr (K : PySem.W.Frag) : List V → Hp → VK → Prop := fun xs H Q => ∃ l vs ds, xs = [.ref l] ∧ SqL K H l vs ∧ vs ≠ [] ∧ Paired (Dz K H) vs ds ∧ PyData.showableAll ds = true ∧ PyData.depthAll ds ≤ 60 ∧
  (listText (PyData.shownAll ds)).length ≤ sizeLine ∧ Q (.str (listText (PyData.shownAll ds))) H
theorem repr_dz {X : Cx} (hg : X.A.guards = some []) (hu : X.A.units + 70 < cLine) : CallR X (.builtin "repr") (rRepr X.K) := by
  intro pins s σ H xs us Q I r h
  obtain ⟨l, vs, ds, rfl, sq, nn, dz, sh, dp, len, q⟩ := h
  obtain ⟨u, rfl, ru⟩ := vals1 r
  cases ru
  obtain ⟨its, rv, ⟨o, n, g1, g2, _, g3⟩, _⟩ := I.list sq
  obtain ⟨as, bs, rd, at_, sw⟩ := shows_all I dz rv sh fun t ht => Nat.le_trans (listText_mem_le ht) len
  have out : l ∉ bs := not_mem_of_deeper (.list g1 g2 g3 rd) (by simp only [PyData.depth]; omega) at_
  match its, nn, rv, g3, rd, sw with
  | [], nn, rv, _, _, _ =>
    cases rv
    exact absurd rfl nn
  | x :: rest, _, _, g3, _, sw =>
    refine call_repr_slot (T := "list") (idr := "list.__repr__") (by omega) ⟨o, g1, g2⟩ F.slot_list_repr.toG ?_
    refine call_list_reprK g1 g2 g3 out (by simpa using sw.length_eq) (fun i y e => sw.item i y (by simpa using e)) (g := []) hg (fun b _ => Clear.nil b) (d := PyData.depthAll ds) ?_ (fun _ _ e => e) (fun h' u tk hk => ?_) len
    · show X.A.units + 1 + (PyData.depthAll ds + 1) < cLine
      omega
    · exact ⟨_, _, rfl, .str _, H, I.kept hk, ⟨u, rfl⟩, q⟩
end Gy

/-! Own exceptions over any base raised and caught: one field; several clauses with a name. -/
namespace Xl
open PySem PySem.Spec PyProof.Rows L2 Gy
/-- an __init__ of one field f -/
def spI1 (C : Addr) (f : Str) : Sp := fun vs H Q _ => ∃ (a : Addr) (v : V), vs = [.ref a, v] ∧ H a = some (exo a C none) ∧ ∀ dx, H dx = none → dx ≠ a → Q .non (upd (upd H dx (exd dx [(f, v)])) a (exo a C (some dx)))
theorem del_made {H : Hp} {a dx C : Addr} {f : Str} {v : V} (n : H a = none) (ne : dx ≠ a) :
    upd (del (upd (upd (upd H a (exo a C none)) dx (exd dx [(f, v)])) a (exo a C (some dx))) a) dx (.xd [(f, v)]) = upd H dx (.xd [(f, v)]) := by
  funext b
  by_cases h1 : b = dx
  · rw [h1, upd_same, upd_same]
  · rw [upd_ne h1, upd_ne h1]
    by_cases h2 : b = a
    · rw [h2, del_same, n]
    · rw [del_ne h2, upd_ne h2, upd_ne h1, upd_ne h2]
section
variable {X : Cx} {C fI : Addr} {fd : FuncData} {f x : Str} {e : Expr} {te : TE} {p pos : Pos} {CX' : CXT}
/-- C(e), to be raised -/
def tMk1 (C : Addr) (f : Str) (t : TA) : L2.St → Hp → XK → Prop := fun σ H Q => t σ H fun vs H1 => ∃ v, vs = [v] ∧ ∀ d, H1 d = none → Q (.ref C) (some d) (upd H1 d (.xd [(f, v)]))
theorem pmk_x1 {t : TA} (T : XIn X.K C fI) (ty : PySem.W.typeIn X.K (.ref C) = some (.type "type")) (F : FnOk X.prog X.w X.K X.mg X.base CX0 1 fI fd ["self", f] (spI1 C f)) (hr : Room 2 X.A)
    (hb : XB X.K fd ["self", f] [] (fun us _ => us) (fun vs _ => vs)) (hg : Gl X x) (hm : X.mg x = some (.ref C)) (ha : PA X [e] t)
    (hdb : (x == ("__debug__" : Str)) = false := by decide) (hst : starEach [e] X.env = (false, eval e X.env) :: starEach [] X.env := by rfl) :
    PMk X (.Call (.Name x p) [e] [] pos) (tMk1 C f t) := by
  intro pins s σ H Q I h
  refine wpAny_Call_Name_kw (ld_glob I hg hm ?_ hdb)
  refine PySem.W.callWith_K (h₀ := X.base) I.ok.mod.kin T.kp (thn (ha.run pos pins s σ H _ I h) ?_) hst rfl
  rintro us s1 ⟨vs, H1, I1, r1, v, rfl, q1⟩
  refine ⟨I1.kIn, ?_⟩
  show wpAny _ _ (call (.ref C) us) _ _ _
  obtain ⟨B, nI, iI, bmB, BF, _, ii, _⟩ := T.base
  obtain ⟨nm, N', qn, bs, bm, hdct, sn, sub, ab, col, dd, k0, k1, k2, k3, k5, cl, hT⟩ := PySem.W.excInit_of I1.kIn ii
  obtain ⟨hp, g', dr, tk', os⟩ := s1
  have big : hp.objs.size ≤ hp.objs.size + 1 := Nat.le_succ _
  have na : H1 (hp.objs.size + 1) = none := I1.hok.fresh big
  have keep : ∀ b o, hp.get? b = some o → ((hp.push (PySem.W.kdv_tup us)).push (PySem.PX.excO C hp.objs.size)).get? b = some o := fun b o e =>
    Heap.get?_push_of_some _ (Heap.get?_push_of_some _ e)
  have new : ((hp.push (PySem.W.kdv_tup us)).push (PySem.PX.excO C hp.objs.size)).get? (hp.objs.size + 1) = some (PySem.PX.excO C hp.objs.size) := by heap_get
  have I2 := I1.laid (t' := tk') (a := hp.objs.size + 1) (o := exo (hp.objs.size + 1) C none) keep big (exo_ok new)
  have r2 : Vals [V.ref (hp.objs.size + 1), v] (Value.ref (hp.objs.size + 1) :: us) := .cons rfl r1
  have hq : spI1 C f [V.ref (hp.objs.size + 1), v] (upd H1 (hp.objs.size + 1) (exo (hp.objs.size + 1) C none))
      (fun r H2 => r = .non ∧ ∃ dx, dx ≠ hp.objs.size + 1 ∧ upd H1 (hp.objs.size + 1) (exo (hp.objs.size + 1) C none) dx = none ∧
        H2 = upd (upd (upd H1 (hp.objs.size + 1) (exo (hp.objs.size + 1) C none)) dx (exd dx [(f, v)])) (hp.objs.size + 1) (exo (hp.objs.size + 1) C (some dx))) (fun _ _ _ => False) :=
    ⟨_, v, rfl, upd_same, fun dx nd ne => ⟨rfl, dx, ne, nd, rfl⟩⟩
  have bl := hb.to ⟨_, g', dr, tk', os⟩ (Value.ref (hp.objs.size + 1)) us [] I2.kIn (by rw [← r2.length]; rfl)
  refine wpAny_call (PySem.Xg.kw_call BF hT cl (PySem.W.looks_findIn I1.kIn T.ini) (fun self => PySem.W.bind_fn I1.kIn self T.tf) ?_ (codeAny_mono (F.run _ X.stack _ _ _ _ _ _ _ (hr.make C us []) (I2.env0.make C us []) bl r2 hq) ?_))
  · rw [← r1.length, sizeLine_eq]
    show 1 ≤ 16777216
    decide
  · rintro (er | (_ | _ | _ | u)) s' z
    · exact (show False from z).elim
    · exact z.elim
    · exact z.elim
    · exact z.elim
    · obtain ⟨r, H2, os2, bare2, un2, hok2, rv, er, dx, ne, nd, e2⟩ := z
      subst er
      obtain ⟨h2, g2, d2, t2, os'⟩ := s'
      subst e2
      refine ⟨rv, mk_end (raises_own T.ex ty) I1 big keep un2 hok2 os2 bare2 upd_same ((upd_ne ne).trans upd_same) ((upd_ne ne).symm.trans nd) ?_⟩
      rw [del_made na ne]
      exact q1 dx ((upd_ne ne).symm.trans nd)
/-- raise C(e) -/
theorem ps_raise1 {W : WX} {t : TA} {rp : Pos} (hc : X.calm = true) (tk : Takes X W) (T : XIn X.K C fI) (ty : PySem.W.typeIn X.K (.ref C) = some (.type "type")) (F : FnOk X.prog X.w X.K X.mg X.base CX0 1 fI fd ["self", f] (spI1 C f)) (hr : Room 2 X.A)
    (hb : XB X.K fd ["self", f] [] (fun us _ => us) (fun vs _ => vs)) (hg : Gl X x) (hm : X.mg x = some (.ref C)) (ha : PA X [e] t)
    (hdb : (x == ("__debug__" : Str)) = false := by decide) (hst : starEach [e] X.env = (false, eval e X.env) :: starEach [] X.env := by rfl) :
    PS X (.Raise (some (.Call (.Name x p) [e] [] pos)) none rp) (fun _ σ H => tMk1 C f t σ H fun cls d H' => W cls d σ H') :=
  ps_raise hc tk (pmk_x1 T ty F hr hb hg hm ha hdb hst)
end
section
variable {X : Cx}
/-- what several clauses 'except x as n' wish of an exception of the body, one after the other: slot i is n's -/
def wManyAs (K : PySem.W.Frag) (i : Nat) (Wout : WX) (D : Ends) : List (Value × (Addr → Value → Option Addr → TS)) → WX
  | [] => Wout
  | (c, ts) :: r => fun cls d σ H => ∃ b, PySem.W.exmOne K cls c = some b ∧
      (b = true → ∀ a, H a = none → ts a cls d { nx := fun σ' H' => D.nx (σ'.set i none) H', rt := D.rt, bk := fun σ' H' => D.bk (σ'.set i none) H', ct := fun σ' H' => D.ct (σ'.set i none) H' } (σ.set i (some (.ref a))) H) ∧
      (b = false → wManyAs K i Wout D r cls d σ H)
inductive HdsAs (X : Cx) (n : Str) : List ExceptHandler → List (Value × (Addr → Value → Option Addr → TS)) → Prop
  | nil : HdsAs X n [] []
  | cons {x : Str} {c : Value} {ts : Addr → Value → Option Addr → TS} {b₀ : Stmt} {suite : List Stmt} {np pos' : Pos} {hds : List ExceptHandler} {l : List (Value × (Addr → Value → Option Addr → TS))} (hc : Names X x c)
      (hsu : ∀ (a : Addr) (oe : Obj) (cls : Value) (d : Option Addr) (pn : List (Addr × Obj)), Zc cls d oe → (∃ vs, oe.data = .fields vs) → PSs (X.suite a ((a, oe) :: pn)) (b₀ :: suite) (ts a cls d)) (r : HdsAs X n hds l) :
      HdsAs X n (.ExceptHandler (some (.Name x np)) (some n) (b₀ :: suite) pos' :: hds) ((c, ts) :: l)
variable {body : List Stmt} {h₀ : ExceptHandler} {hds : List ExceptHandler} {l : List (Value × (Addr → Value → Option Addr → TS))} {n : Str} {i : Nat} {pos : Pos} {tb : WX → TS} {Wout : WX}
/-- try: body, several clauses 'except x as n' -/
theorem ps_try_manyAs (hs : X.stack = X.env :: X.outer) (hf : X.env.frame = some X.env.locals) (hN : X.N.Nodup) (hi : X.N[i]? = some n) (hln : X.env.kindOf n = some .local) (tk : Takes X Wout)
    (hb : ∀ (W : WX) (pn : List (Addr × Obj)) (xe : Value → Shared → Prop), Takes (X.tr pn xe) W → PassesOwn (model X.prog X.w) X.A X.env xe → PSs (X.tr pn xe) body (tb W))
    (hh : HdsAs X n (h₀ :: hds) l) : PS X (.Try body (h₀ :: hds) [] [] pos) (fun D σ H => tb (wManyAs X.K i Wout D l) D σ H) := by
  constructor
  intro pins s σ H D I h
  have ok := I.ok
  have fr : X.A.frames = some (X.env :: X.outer) := by
    rw [ok.frames, hs]
  refine wpAny_Try_except ?_
  have run := hb (wManyAs X.K i Wout D l) (X.pn ++ pins) (fun e s₁ => wpAny (model X.prog X.w) X.A (noteFrame e X.env) (fun _ s₂ => wpAny (model X.prog X.w) X.A (setFlight e none)
    (fun _ s₃ => wpAny (model X.prog X.w) X.A (handleBy e X.env (h₀ :: hds)) (SP X pins D) X.xe s₃) X.xe s₂) X.xe s₁) ?tk PassesOwn.looking
  case tk =>
    rintro u s' ⟨a, B, sI, pins', σ', H', cls, d, rfl, J', nb, up, sky, na, os, ag, wish⟩
    have J := J'.ofTry ok
    rw [show (X.tr (X.pn ++ pins) _).stack = X.env :: X.outer from hs] at sky
    refine Sky.land Zc.steady fr hf sky fun h3 fl3 up3 => ?_
    have J3 : Inv X pins σ' H' { s' with heap := h3 } := J.landed nb fl3.1 (up.trans up3) os ag
    obtain ⟨oe3, vs3, at3, z3, d3⟩ := fl3.there
    have out : a ∉ frs (X.env :: X.outer) := fun m => by
      obtain ⟨_, o', q', nf⟩ := fl3.2.2.1.mem m
      rw [at3] at q'
      cases q'
      exact nf _ d3
    have nL : a ≠ X.env.locals := fun z => out (List.mem_filterMap.mpr ⟨X.env, List.mem_cons_self, by rw [hf, z]⟩)
    have nF : a ∉ X.fs := fun m => by
      obtain ⟨e', he', q'⟩ := List.mem_filterMap.mp m
      exact out (List.mem_filterMap.mpr ⟨e', List.mem_cons_of_mem _ he', q'⟩)
    have S3 := J3.suite at3 d3 na nL nF
    have go : ∀ {hds' l'}, HdsAs X n hds' l' → wManyAs X.K i Wout D l' cls d σ' H' → wpAny (model X.prog X.w) X.A (handleBy (.ref a) X.env hds') (SP X pins D) X.xe { s' with heap := h3 } := by
      intro hds' l' hk
      induction hk with
      | nil =>
        intro wish
        refine wpAny_handleBy_nil ?_
        obtain ⟨k1, k2, k3, oe, vs, T, oT, ts', he, hz, hd, h1, hr⟩ := id fl3
        unfold PySem.passOn
        refine wpAny_bind (wpAny_field he hd h1 ?_)
        rw [if_neg (show ¬ ((Value.ref T == Value.none) = true) from by simp)]
        have fin : wpAny (model X.prog X.w) X.A (setFlight (.ref a) X.env.frame) (fun _ s4 => wpAny (model X.prog X.w) X.A (throw (.ref a) : Sem Flow) (SP X pins D) X.xe s4) X.xe { s' with heap := h3 } := by
          rw [hf]
          refine HandSPX.setFlight_upZ fl3 fun h4 hh4 up4 => wpAny_throw (tk _ _ ?_)
          refine ⟨a, B, sI, pins, σ', H', cls, d, rfl, J, nb, (up.trans up3).trans up4, .inr (.inr ?_), na, os, ag, wish⟩
          rw [hs]
          exact hh4
        first
          | exact wpAny_bind (wpAny_pure (wpAny_bind fin))
          | exact wpAny_bind fin
      | @cons x c ts b₀ suite np pos' hds2 l2 hc hsu r ih =>
        rintro ⟨b, hb1, yes, no⟩
        refine wpAny_handleBy_cons (codeAny_handlers_test ?_) (by intro q; cases q)
        have ty : PySem.W.Looks (model X.prog X.w) h3 (typeOf (.ref a)) cls := fun A Q E s k q => wpAny_typeOf_ref (k _ _ at3) (by rw [z3.1]; exact q)
        have look := PySem.W.exm_one (M := model X.prog X.w) J3.kIn ty hb1
        have name : ∀ {Q : Value → Shared → Prop} {E : Value → Shared → Prop}, Q c { s' with heap := h3 } → wpAny (model X.prog X.w) (X.A.mark (some (.ref a))) (eval (.Name x np) X.env) Q E { s' with heap := h3 } := by
          intro Q E q
          obtain ⟨hg, hdbg, hm | ⟨hm, hv, hnn⟩⟩ := hc
          · exact ld_glob (X := X.suite a ((a, oe3) :: (X.pn ++ pins))) S3 hg hm q hdbg
          · exact ld_blt (X := X.suite a ((a, oe3) :: (X.pn ++ pins))) S3 hg hm hv q hnn hdbg
        refine name (look.here ?_)
        cases b with
        | false =>
          show wpAny _ X.A (handleBy (.ref a) X.env hds2) _ _ _
          exact ih (no rfl)
        | true =>
          refine codeAny_handlers_suite_as ?_
          refine HandSPX.lands_againZ fl3 fun h4 fl4 up4 => ?_
          have J4 : Inv X pins σ' H' { s' with heap := h4 } := J.landed nb fl4.1 ((up.trans up3).trans up4) os ag
          obtain ⟨oe4, vs4, at4, z4, d4⟩ := fl4.there
          have S4 := J4.suite at4 d4 na nL nF
          refine store_ok (X := X.suite a ((a, oe4) :: (X.pn ++ pins))) (v := .ref a) S4 hN hi (.inl hln) rfl (fun s5 S5 => ?_) (.inr hln)
          refine wpAny_mono ((hsu a oe4 cls d (X.pn ++ pins) z4 ⟨_, d4⟩).run [] s5 _ H' _ S5 (yes rfl a na)) (fun f s6 sp => ?_) (fun _ _ z => False.elim z)
          have leave : ∀ {σ6 : L2.St} {H6 : Hp} {Q : Shared → Prop}, Inv (X.suite a ((a, oe4) :: (X.pn ++ pins))) [] σ6 H6 s6 → (∀ s7, Inv X pins (σ6.set i none) H6 s7 → Q s7) →
              wpAny (model X.prog X.w) X.A (do bindName X.env n .none; unbindBehindTheSuite X.env n pos') (fun _ s7 => Q s7) X.xe s6 := fun S6 hq => gone_ok (S6.unsuite ok) hN hi hln hq
          cases f with
          | ret u =>
            obtain ⟨v6, σ6, H6, S6, r6, q6⟩ := sp
            exact leave S6 fun s7 J7 => ⟨_, _, _, J7, r6, q6⟩
          | _ =>
            obtain ⟨σ6, H6, S6, q6⟩ := sp
            exact leave S6 fun s7 J7 => ⟨_, _, J7, q6⟩
    exact go hh wish
  refine wpAny_mono (run.run [] s σ H D (I.toTry _) h) (fun f s1 sp => ?_) (fun e s1 he => he)
  cases f with
  | next =>
    obtain ⟨σ', H', J', q⟩ := sp
    exact wpAny_execs_nil ⟨σ', H', J'.ofTry ok, q⟩
  | ret u =>
    obtain ⟨v, σ', H', J', r, q⟩ := sp
    exact ⟨v, σ', H', J'.ofTry ok, r, q⟩
  | _ =>
    obtain ⟨σ', H', J', q⟩ := sp
    exact ⟨σ', H', J'.ofTry ok, q⟩
end
end Xl

/-! raise C(e) from None in an except suite, C an own exception of one field. -/
namespace Xl
open PySem PySem.Spec PyProof.Rows L2 L2H Gy
section
variable {X : Cx} {C fI : Addr} {fd : FuncData} {f x : Str} {e : Expr} {p pos : Pos}
theorem pmk5_x1 {t : TA} (T : XIn X.K C fI) (ty : PySem.W.typeIn X.K (.ref C) = some (.type "type")) (F1 : FnH X.prog X.w X.K X.mg X.base CX0 1 fI fd ["self", f] (spI1 C f)) (hr : RoomH 2 X.A) (hc : HotC X)
    (hb : XB X.K fd ["self", f] [] (fun us _ => us) (fun vs _ => vs)) (hg : Gl X x) (hm : X.mg x = some (.ref C)) (ha : PA X [e] t)
    (hdb : (x == ("__debug__" : Str)) = false := by decide) (hst : starEach [e] X.env = (false, eval e X.env) :: starEach [] X.env := by rfl) :
    PMk5 X (.Call (.Name x p) [e] [] pos) (tMk1 C f t) := by
  intro pins s σ H Q I h
  obtain ⟨pn, hot, hpn⟩ := hc
  refine wpAny_Call_Name_kw (ld_glob I hg hm ?_ hdb)
  refine PySem.W.callWith_K (h₀ := X.base) I.ok.mod.kin T.kp (thn (ha.run pos pins s σ H _ I h) ?_) hst rfl
  rintro us s1 ⟨vs, H1, I1, r1, v, rfl, q1⟩
  refine ⟨I1.kIn, ?_⟩
  show wpAny _ _ (call (.ref C) us) _ _ _
  obtain ⟨B, nI, iI, bmB, BF, _, ii, _⟩ := T.base
  obtain ⟨nm, N', qn, bs, bm, hdct, sn, sub, ab, col, dd, k0, k1, k2, k3, k5, cl, hT⟩ := PySem.W.excInit_of I1.kIn ii
  obtain ⟨hp, g', dr, tk', os⟩ := s1
  have big : hp.objs.size ≤ hp.objs.size + 1 := Nat.le_succ _
  have na : H1 (hp.objs.size + 1) = none := I1.hok.fresh big
  have keep : ∀ b o, hp.get? b = some o → ((hp.push (PySem.W.kdv_tup us)).push (PySem.PX.excO C hp.objs.size)).get? b = some o := fun b o e =>
    Heap.get?_push_of_some _ (Heap.get?_push_of_some _ e)
  have new : ((hp.push (PySem.W.kdv_tup us)).push (PySem.PX.excO C hp.objs.size)).get? (hp.objs.size + 1) = some (PySem.PX.excO C hp.objs.size) := by heap_get
  have I2 := I1.laid (t' := tk') (a := hp.objs.size + 1) (o := exo (hp.objs.size + 1) C none) keep big (exo_ok new)
  have r2 : Vals [V.ref (hp.objs.size + 1), v] (Value.ref (hp.objs.size + 1) :: us) := .cons rfl r1
  have hq : spI1 C f [V.ref (hp.objs.size + 1), v] (upd H1 (hp.objs.size + 1) (exo (hp.objs.size + 1) C none))
      (fun r H2 => r = .non ∧ ∃ dx, dx ≠ hp.objs.size + 1 ∧ upd H1 (hp.objs.size + 1) (exo (hp.objs.size + 1) C none) dx = none ∧
        H2 = upd (upd (upd H1 (hp.objs.size + 1) (exo (hp.objs.size + 1) C none)) dx (exd dx [(f, v)])) (hp.objs.size + 1) (exo (hp.objs.size + 1) C (some dx))) (fun _ _ _ => False) :=
    ⟨_, v, rfl, upd_same, fun dx nd ne => ⟨rfl, dx, ne, nd, rfl⟩⟩
  have bl := hb.to ⟨_, g', dr, tk', os⟩ (Value.ref (hp.objs.size + 1)) us [] I2.kIn (by rw [← r2.length]; rfl)
  have P1 := I2.pin pn (List.mem_append_left _ hpn)
  have hpin : PinOk X.stack (upd H1 (hp.objs.size + 1) (exo (hp.objs.size + 1) C none)) ⟨(hp.push (PySem.W.kdv_tup us)).push (PySem.PX.excO C hp.objs.size), g', dr, tk', os⟩ pn :=
    ⟨P1.1, P1.2.1, fun hmm => (List.mem_cons.mp (I2.stkSub pn.1 hmm)).elim P1.2.2.1 P1.2.2.2.1, P1.2.2.2.2⟩
  refine wpAny_call (PySem.Xg.kw_call BF hT cl (PySem.W.looks_findIn I1.kIn T.ini) (fun self => PySem.W.bind_fn I1.kIn self T.tf) ?_ (codeAny_mono (F1.run _ X.stack _ _ _ _ _ _ _ pn (hr.make C us []) ⟨hot.1, hot.2⟩ hpin (I2.env0.make C us []) bl r2 hq) ?_))
  · rw [← r1.length, sizeLine_eq]
    show 1 ≤ 16777216
    decide
  · rintro (er | (_ | _ | _ | u)) s' z
    · exact (show False from z).elim
    · exact z.elim
    · exact z.elim
    · exact z.elim
    · obtain ⟨r, H2, os2, bare2, un2, hok2, rv, er, dx, ne, nd, e2⟩ := z
      subst er
      obtain ⟨h2, g2, d2, t2, os'⟩ := s'
      subst e2
      obtain ⟨t0, G, J, kG, ge, hoe, na2⟩ := mk_end0 (d2 := d2) (t2 := t2) (C := C) (fs := [(f, v)]) I1 big keep un2 hok2 os2 bare2 upd_same ((upd_ne ne).trans upd_same) ((upd_ne ne).symm.trans nd)
      have eH := del_made (H := H1) (C := C) (f := f) (v := v) na ne
      refine ⟨rv, ⟨hp.objs.size + 1, _, _, ⟨G, g2, d2, t2, os'⟩, _, .ref C, some dx, rfl, J, kG, ge, hoe, ⟨rfl, rfl, fun vs hv => ?_⟩, rfl, rfl, na2, rfl, bare2, raises_own T.ex ty, ?_⟩, fun a oe vs ea2 hg2 hd2 => ?_⟩
      · cases hv
        rfl
      · rw [eH]
        exact q1 dx ((upd_ne ne).symm.trans nd)
      · cases ea2
        have hg3 : h2.get? (hp.objs.size + 1) = some oe := hg2
        rw [hoe] at hg3
        cases hg3
        cases hd2
        show (4 : Nat) < 6
        decide
end
end Xl

/-! In an except suite: isinstance of the caught error, whose fields stand in its dict. -/
namespace Xl
open PySem PySem.Spec PyProof.Rows L2 Gy
def rIsS (K : PySem.W.Frag) (a : Addr) (cls : Value) (d : Option Addr) : List V → Hp → VK → Prop := fun xs H Q => ∃ (D dd : Addr) (fs : List (Str × V)) (c : V) (cv : Value) (b : Bool),
  xs = [.ref a, c] ∧ cls = .ref D ∧ d = some dd ∧ H dd = some (.xd fs) ∧ XCl K D ∧ ClsV c cv ∧ PySem.W.kitOne K (.ref D) cv = some b ∧ Q (.bl b) H
theorem call_isS {X : Cx} {a : Addr} {oe : Obj} {cls : Value} {d : Option Addr} {pn : List (Addr × Obj)} (cg : PySem.W.specialIn X.K (.builtin "object.__class__") "__get__" = some (some (.builtin "getset_descriptor.__get__")))
    (ct : PySem.W.takesIn X.K (.builtin "object.__class__") = some true) (hz : Zc cls d oe) (hf : ∃ vs, oe.data = .fields vs) : CallR (X.suite a ((a, oe) :: pn)) (.builtin "isinstance") (rIsS X.K a cls d) := by
  intro pins s σ H xs us Q I r h
  obtain ⟨D, dd, fs, c, cv, b, rfl, rfl, rfl, hd, T, hc, e, q⟩ := h
  obtain ⟨u1, u2, rfl, r1, r2⟩ := vals2 r
  cases r1
  have e2 := hc.eq r2
  subst e2
  obtain ⟨ha, _⟩ := I.pin (a, oe) (List.mem_append_left _ List.mem_cons_self)
  obtain ⟨vs, hv⟩ := hf
  obtain ⟨mA, ns, _⟩ := (show ObjOk X.prog X.w H s.heap dd (.xd fs) from I.hok dd _ hd)
  obtain ⟨od, go, _⟩ := lookIn_ns ns
  have cl : (PySem.W.clsIn X.K D).isSome = true := by
    obtain ⟨cd, z, _⟩ := PySem.W.any_some T.hd
    rw [z]
    rfl
  have J : PySem.W.InstAt s.heap a oe D (some od) := by
    obtain ⟨oc, odd, oda, osl⟩ := oe
    obtain ⟨h1, h2⟩ := hz
    dsimp only at h1 h2 hv
    subst h1 h2 hv
    exact ⟨ha, rfl, rfl, go⟩
  exact PySem.W.kia_one (PySem.W.kitx_exc cl T.ga T.gg T.ex T.ca cg ct T.ob) I.kIn J e (fun z => nomatch z) fun tk => ⟨.bl b, H, I.tok tk, rfl, q⟩
end Xl

/-! Tuples that are made in the run, known to have no dict of their own: so their methods can be called. -/
namespace Xt
open PySem PySem.Spec PyProof.Rows L2
/-- a tuple that was made in the run -/
def Tz (H : Hp) (a : Addr) (xs : List V) : Prop := ∃ o : Obj, H a = some (.frz o (.tup xs)) ∧ o.cls = .type "tuple" ∧ o.dict = none
theorem Tz.sq {K : PySem.W.Frag} {H : Hp} {a : Addr} {xs : List V} (h : Tz H a xs) : SqT K H a xs := by
  obtain ⟨o, e, _⟩ := h
  exact .inl (.inr ⟨o, e⟩)
theorem Tz.same {H H' : Hp} {a : Addr} {xs : List V} (h : Tz H a xs) (s : Same H H') : Tz H' a xs := by
  obtain ⟨o, e, c⟩ := h
  exact ⟨o, s _ _ e, c⟩
theorem Tz.ty {K : PySem.W.Frag} {H : Hp} {a : Addr} {xs : List V} (h : Tz H a xs) : TyX K H (.ref a) (.type "tuple") := by
  obtain ⟨o, e, _⟩ := h
  exact .fTuple e
theorem Tz.ne {H : Hp} {a p : Addr} {xs : List V} (h : Tz H a xs) (n : H p = none) : a ≠ p := by
  obtain ⟨o, e, _⟩ := h
  exact ne_of_none e n
/-- the goal behind a new tuple -/
def NewT (xs : List V) (H : Hp) (Q : VK) : Prop := ∀ p o, H p = none → Same H (upd H p o) → Tz (upd H p o) p xs → Q (.ref p) (upd H p o)
section
variable {X : Cx} {pins : List (Addr × Obj)} {σ : L2.St} {H : Hp} {s : Shared} {Q : VK}
theorem lay_new (I : Inv X pins σ H s) {xs : List V} {us : List Value} {n : Nat} (z : xs.length ≤ sizeLine) (r : Vals xs us) (q : NewT xs H Q) :
    EP X pins σ Q (.ref s.heap.objs.size) { s with heap := s.heap.push { cls := .type "tuple", data := .seq us.toArray n } } := by
  have new : H s.heap.objs.size = none := I.hok.fresh (Nat.le_refl _)
  have got : (s.heap.push { cls := .type "tuple", data := .seq us.toArray n }).get? s.heap.objs.size = some { cls := .type "tuple", data := .seq us.toArray n } := Heap.get?_push_size _ rfl
  refine ⟨.ref s.heap.objs.size, upd H s.heap.objs.size (.frz { cls := .type "tuple", data := .seq us.toArray n } (.tup xs)), I.laid (t' := s.toks) (fun b u e => Heap.get?_push_of_some _ e) (Nat.le_refl _) ⟨got, z, us, r, _, got, rfl, n, rfl⟩, rfl, ?_⟩
  refine q _ _ new (fun b x e => ?_) ⟨_, upd_same, rfl, rfl⟩
  rw [upd_ne (ne_of_none e new)]
  exact e
/-- a written tuple -/
def tTupZ (t : TA) : TE := fun σ H Q => t σ H fun xs H1 => xs.length ≤ sizeLine ∧ NewT xs H1 Q
theorem pe_tupZ {es : List Expr} {t : TA} {x1} {pos : Pos} (h : PA X es t) : PE X (.Tuple es x1 pos) (tTupZ t) := by
  refine ⟨fun pins s σ H Q I hq => wpAny_Tuple_spliced (thn (h.run pos pins s σ H _ I hq) fun us s1 ⟨xs, H1, I1, r, z, q⟩ => ⟨by rw [← r.length]; exact z, ?_⟩)⟩
  exact lay_new I1 z r q
/-- tuple(xs), xs a list -/
def rTupOf (K : PySem.W.Frag) : List V → Hp → VK → Prop := fun xs H Q => ∃ p ys, xs = [.ref p] ∧ SqL K H p ys ∧ ys.length ≤ 1000 ∧ NewT ys H Q
theorem call_tupOf : CallR X (.type "tuple") (rTupOf X.K) := by
  intro pins s σ H xs us Q I r h
  obtain ⟨p, ys, rfl, sq, le, q⟩ := h
  obtain ⟨u, rfl, rx⟩ := vals1 r
  cases rx
  obtain ⟨its, rv, pl, z⟩ := I.list sq
  have el := rv.length
  refine call_tuple_list pl.isList (fun h2 keep => ?_) (by simp only [List.size_toArray]; omega)
  exact lay_new (n := 0) (I.kept (t' := s.toks) keep) z rv q
/-- t[a:b], not the whole -/
def rCut (K : PySem.W.Frag) : V → Option Int → Option Int → Hp → VK → Prop := fun x lo hi H Q => ∃ a xs, x = .ref a ∧ SqT K H a xs ∧ ¬ (HT.sIx xs.length 0 lo = 0 ∧ HT.sIx xs.length xs.length hi = xs.length) ∧ NewT (cutV xs lo hi) H Q
theorem sl_cut : SlR X (rCut X.K) := by
  intro pins s σ H x v vl vu lo hi sl Q I rx hs pl pu h
  obtain ⟨a, xs, rfl, sq, part, q⟩ := h
  cases rx
  obtain ⟨its, r, at_, z⟩ := I.tuple sq
  have el : its.toArray.size = xs.length := by rw [List.size_toArray]; exact r.length.symm
  refine ⟨"tuple", _, PyProof.Rows.slot_tuple_getitem.lookup, at_.typeIs, HT.getItem_tuple_cut at_ hs pl pu (by rw [el]; exact part) ?_ (by rw [el]; exact z)⟩
  rw [el]
  exact lay_new I (Nat.le_trans (cutV_length xs lo hi) z) ((r.drop (HT.sIx xs.length 0 lo)).take (HT.sIx xs.length xs.length hi - HT.sIx xs.length 0 lo)) q
/-- t[a:b] of any kind: the whole is t itself; what comes is told by a relation that both give -/
def rCutA (K : PySem.W.Frag) : V → Option Int → Option Int → Hp → VK → Prop := fun x lo hi H Q => ∃ a xs, x = .ref a ∧ Tz H a xs ∧ (cutV xs lo hi = xs → Q (.ref a) H) ∧ NewT (cutV xs lo hi) H Q
theorem cut_whole {xs : List V} {lo hi : Option Int} (h : HT.sIx xs.length 0 lo = 0 ∧ HT.sIx xs.length xs.length hi = xs.length) : cutV xs lo hi = xs := by
  unfold cutV
  rw [h.1, h.2, List.drop_zero, Nat.sub_zero, List.take_of_length_le (Nat.le_refl _)]
theorem sl_cutA : SlR X (rCutA X.K) := by
  intro pins s σ H x v vl vu lo hi sl Q I rx hs pl pu h
  obtain ⟨a, xs, rfl, tz, q1, q2⟩ := h
  by_cases w : HT.sIx xs.length 0 lo = 0 ∧ HT.sIx xs.length xs.length hi = xs.length
  · exact sl_tupA pins s σ H _ v vl vu lo hi sl Q I rx hs pl pu ⟨a, xs, rfl, tz.sq, fun _ => q1 (cut_whole w), fun z => absurd w z⟩
  · exact sl_cut pins s σ H _ v vl vu lo hi sl Q I rx hs pl pu ⟨a, xs, rfl, tz.sq, w, q2⟩
/-- t + u -/
def rSum (K : PySem.W.Frag) : R2 := fun x y H Q => ∃ a b xs ys, x = .ref a ∧ y = .ref b ∧ Tz H a xs ∧ Tz H b ys ∧ xs.length + ys.length ≤ sizeLine ∧ (xs = [] → Q (.ref b) H) ∧ (ys = [] → Q (.ref a) H) ∧ NewT (xs ++ ys) H Q
theorem op_sum : OpR X (binaryOp .Add) (rSum X.K) := by
  intro pins s σ H x y v u Q I rx ry h
  obtain ⟨a, b, xs, ys, rfl, rfl, ta, tb, z, q0, q1, q2⟩ := h
  cases rx
  cases ry
  obtain ⟨its, r1, p1, _⟩ := I.tuple ta.sq
  obtain ⟨its2, r2, p2, _⟩ := I.tuple tb.sq
  by_cases e : xs = []
  · subst e
    cases r1
    exact cat_tup0 p1 p2 ⟨.ref b, H, I, rfl, q0 rfl⟩
  · refine HT.cat_tup p1 p2 (fun w => e (r1.nil_iff.mp w)) (fun w => ⟨.ref a, H, I, rfl, q1 (r2.nil_iff.mp w)⟩) (fun _ => ?_) (by rw [← r1.length, ← r2.length]; exact z)
    exact lay_new I (by rw [List.length_append]; exact z) (r1.append r2) q2
/-- t.m(e, ..), t a tuple made in the run -/
def tTm (r : V → List V → Hp → VK → Prop) (to : TE) (t : TA) : TE := fun σ H Q => to σ H fun x H1 => (∃ a xs, x = .ref a ∧ Tz H1 a xs) ∧ t σ H1 fun ys H2 => r x ys H2 Q
theorem pe_tm {o e : Expr} {es : List Expr} {to : TE} {t : TA} {name : Str} {apos cpos : Pos} {id : String} {r : V → List V → Hp → VK → Prop} (slot : Slot "tuple" name id) (hty : typeOf (.builtin id) = pure (.type "method_descriptor")) (hm : MtR X id r) (ho : PE X o to) (ha : PA X (e :: es) t)
    (hbase : attributeBase o name X.env (eval o X.env) = eval o X.env := by rfl)
    (few : ((backTo cpos (starEach (e :: es) X.env)).all (fun x => !x.1) && (backToKw cpos (keywordEach [] X.env)).all (fun x => x.1.isSome) && decide ((e :: es).length + ([] : List Keyword).length + (if ([] : List Keyword).isEmpty then 0 else 1) < 30)) = true := by rfl)
    (hline : (apos.endLine == cpos.line) = true := by rfl) (hs : starEach (e :: es) X.env = (false, eval e X.env) :: starEach es X.env := by rfl) (hpl : (backTo cpos (starEach es X.env)).any (·.1) = false := by rfl) :
    PE X (.Call (.Attribute o name apos) (e :: es) [] cpos) (tTm r to t) := by
  refine ⟨fun pins s σ H Q I h => wpAny_Call_method_late hbase few hline rfl (thn (ho.run pins s σ H _ I h) fun v s1 ⟨x, H1, I1, r1, ty, q1⟩ => ?_)⟩
  obtain ⟨a, xs, rfl, ob, eo, oc, od⟩ := ty
  cases r1
  have got : s1.heap.get? a = some ob := (show ObjOk X.prog X.w H1 s1.heap a (.frz ob (.tup xs)) from I1.hok a _ eo).1
  refine ⟨"tuple", id, PySem.F.plainAttrs_tuple, slot, hty, ⟨ob, got, oc⟩, fun b eb => by cases eb; exact ⟨ob, got, od⟩, ?_⟩
  have args := ha.run cpos pins s1 σ H1 _ I1 q1
  rw [hs] at args ⊢
  refine Calls.callWith_builtin (by show (false || (backTo cpos (starEach es X.env)).any (·.1)) = false; rw [hpl]; rfl) (Calls.evalArgs_plain (thn args fun us s2 ⟨vs, H2, I2, r2, q2⟩ => ?_))
  exact hm pins s2 σ H2 (.ref a) vs (.ref a) us Q I2 rfl r2 q2
end
end Xt

/-! A tuple turned about: t[::-1]. Tuples, and any value, compared. -/
namespace Xt
open PySem PySem.Spec PyProof.Rows L2 Gy
theorem back_ends (n : Nat) : Builtin.Slice.sliceAdjust none none (-1) (n : Int) = ((n : Int) - 1, -1) := rfl
theorem back_places (n : Nat) : Builtin.Slice.slicePlaces ((n : Int) - 1) (-1) (-1) = n := by
  unfold Builtin.Slice.slicePlaces
  rw [if_neg (by decide)]
  by_cases h : n = 0
  · subst h
    rfl
  · rw [if_pos (by omega), show (- -1 : Int) = 1 from rfl, Int.ediv_one]
    omega
theorem back_pick (xs : Array Value) : ((List.range xs.size).filterMap fun (m : Nat) => xs[(((xs.size : Int) - 1) + (m : Int) * (-1)).toNat]?).toArray = xs.toList.reverse.toArray := by
  congr 1
  refine List.ext_getElem? fun i => ?_
  have key : ∀ k, k ≤ xs.size → (List.range k).filterMap (fun (m : Nat) => xs[(((xs.size : Int) - 1) + (m : Int) * (-1)).toNat]?) = xs.toList.reverse.take k := by
    intro k
    induction k with
    | zero => intro _; rfl
    | succ k ih =>
      intro hk
      have lt : xs.size - 1 - k < xs.size := by omega
      have e : (((xs.size : Int) - 1) + (k : Int) * (-1)).toNat = xs.size - 1 - k := by omega
      have g : xs.toList.reverse[k]? = some xs[xs.size - 1 - k] := by
        have l : k < xs.toList.reverse.length := by
          rw [List.length_reverse, Array.length_toList]
          omega
        rw [List.getElem?_eq_getElem l, List.getElem_reverse]
        simp
      rw [List.range_succ, List.filterMap_append, ih (by omega), List.take_add_one, g]
      congr 1
      rw [List.filterMap_cons_some (b := xs[xs.size - 1 - k]) (by rw [e]; exact Array.getElem?_eq_getElem lt)]
      rfl
  rw [key xs.size (Nat.le_refl _), List.take_of_length_le (by rw [List.length_reverse, Array.length_toList]; exact Nat.le_refl _)]
section
variable {prog : Program} {w : World} {A : Around} {E : Value → Shared → Prop} {s : Shared}
theorem applied_back {sl : Addr} {vl vu vs : Value} {n : Nat} {Q : Int × Int × Nat → Shared → Prop} (hs : s.heap.IsSliceOf sl vl vu vs) (pl : IsPart vl none) (pu : IsPart vu none) (ps : IsPart vs (some (-1)))
    (h : Q ((n : Int) - 1, -1, n) s) : wpAny (model prog w) A (Builtin.Slice.sliceApplied (.ref sl) (pure (n : Int))) Q E s := by
  obtain ⟨o, e1, e2, e3⟩ := id hs
  unfold Builtin.Slice.sliceApplied Builtin.Slice.sliceFields
  refine wpAny_bind (wpAny_bind (wpAny_field e1 e3 (x := vl) rfl ?_))
  refine wpAny_bind (wpAny_field e1 e3 (x := vu) rfl ?_)
  refine wpAny_bind (wpAny_field e1 e3 (x := vs) rfl (wpAny_pure ?_))
  refine wpAny_bind (HT.slicePart_ ps ?_)
  show wpAny _ _ (if ((-1 : Int) == 0) = true then _ else _) _ _ s
  rw [if_neg (by decide)]
  refine wpAny_bind (HT.slicePart_ pl ?_)
  refine wpAny_bind (HT.slicePart_ pu ?_)
  refine wpAny_bind (wpAny_pure ?_)
  show wpAny _ _ (pure ((Builtin.Slice.sliceAdjust none none (-1) (n : Int)).1, (-1 : Int), Builtin.Slice.slicePlaces (Builtin.Slice.sliceAdjust none none (-1) (n : Int)).1 (Builtin.Slice.sliceAdjust none none (-1) (n : Int)).2 (-1))) _ _ s
  rw [back_ends, back_places]
  exact wpAny_pure h
theorem item_back {t sl : Addr} {items : Array Value} {vl vu vs : Value} {Q : Value → Shared → Prop} (ht : IsTup s.heap t items) (hs : s.heap.IsSliceOf sl vl vu vs) (pl : IsPart vl none) (pu : IsPart vu none) (ps : IsPart vs (some (-1)))
    (h : Q (.ref s.heap.objs.size) { s with heap := s.heap.push { cls := .type "tuple", data := .seq items.toList.reverse.toArray } }) (hz : items.size ≤ sizeLine) : wpAny (model prog w) A (getItem (.ref t) (.ref sl)) Q E s := by
  have fits : sizeOk (.seq items.toList.reverse.toArray) := by
    show items.toList.reverse.toArray.size ≤ sizeLine
    rw [List.size_toArray, List.length_reverse, Array.length_toList]
    exact hz
  obtain ⟨o, e1, e2, e3⟩ := id hs
  have ty : s.TypeIs (.ref sl) "slice" := ⟨o, e1, e2⟩
  unfold getItem
  try with_reducible refine wpAny_holding ?_
  first
    | refine wpAny_bind (wpAny_pure ?_)
    | skip
  refine wpAny_bind (wpAny_sequenceKey ht.typeIs (by decide) ?_)
  refine wpAny_bind (wpAny_callSpecial?_slot (name := Str.ofString "__getitem__") ht.typeIs PyProof.Rows.slot_tuple_getitem (wpAny_call_entry PyProof.Rows.slot_tuple_getitem ht.typeIs entry_tuple_getitem ?_ (args_tuple_getitem _ _)))
  refine (?_ : wpAny _ _ (Builtin.Tuple.tupleItemsOf (.ref t) >>= _) _ _ s)
  refine wpAny_bind (tupleItemsOf_ ht ?_)
  refine wpAny_bind (wpAny_typeOf ty ?_)
  rw [if_pos (by decide)]
  refine wpAny_bind (applied_back hs pl pu ps ?_)
  have no : ¬ ((((items.size : Int) - 1) == 0 && (-1 : Int) == 1 && items.size == items.size) = true) := fun q => by
    rw [Bool.and_eq_true, Bool.and_eq_true] at q
    exact absurd q.1.2 (by decide)
  refine (?_ : wpAny _ _ (if (((items.size : Int) - 1) == 0 && (-1 : Int) == 1 && items.size == items.size) = true then _ else _) _ _ s)
  rw [if_neg no, back_pick]
  first
    | exact wpAny_bind (m := Builtin.Tuple.tupleExact _) (wpAny_newObj_type (wpAny_pure ⟨_, rfl, wpAny_pure h⟩) fits)
    | exact wpAny_bind (wpAny_bind (m := Builtin.Tuple.tupleExact _) (wpAny_newObj_type (wpAny_pure (wpAny_pure ⟨_, rfl, wpAny_pure h⟩)) fits))
    | exact wpAny_bind (wpAny_bind (m := Builtin.Tuple.tupleExact _) (wpAny_newObj_type (wpAny_pure ⟨_, rfl, wpAny_pure h⟩) fits))
end
section
variable {X : Cx}
/-- t[::-1] -/
def tRevT (K : PySem.W.Frag) (te : TE) : TE := fun σ H Q => te σ H fun x H1 => ∃ a xs, x = .ref a ∧ SqT K H1 a xs ∧ NewT xs.reverse H1 Q
theorem pe_revT {e : Expr} {te : TE} {k : Nat} {p1 p2 p3 pos : Pos} (he : PE X e te) : PE X (.Subscript e (.Slice none none (some (.UnaryOp .USub (.Constant (.int 1) k p1) p2)) p3) pos) (tRevT X.K te) := by
  constructor
  intro pins s σ H Q I h
  refine Subscript_ (thn (he.run pins s σ H _ I h) ?_)
  rintro v s1 ⟨x, H1, I1, r1, a, xs, rfl, hx, q⟩
  cases r1
  have hst : PO X (some (.UnaryOp .USub (.Constant (.int 1) k p1) p2)) (tPart (tUn (rU fun i => .int (-i)) (tC (.int 1)))) := po_some (pe_un un_neg pe_int)
  refine wpAny_Slice (thn (po_none.run pins s1 σ H1 (fun o H2 => o = none ∧ H2 = H1) I1 ⟨rfl, rfl⟩) ?_)
  rintro vl s2 ⟨l, H2, I2, pl, rfl, rfl⟩
  refine thn (po_none.run pins s2 σ H2 (fun o H3 => o = none ∧ H3 = H2) I2 ⟨rfl, rfl⟩) ?_
  rintro vu s3 ⟨u, H3, I3, pu, rfl, rfl⟩
  refine thn (hst.run pins s3 σ H3 (fun o H4 => o = some (-1) ∧ H4 = H3) I3 ⟨1, rfl, -1, rfl, rfl, rfl⟩) ?_
  rintro vs s4 ⟨o, H4, I4, ps, rfl, rfl⟩
  have I5 : Inv X pins σ H4 { s4 with heap := s4.heap.push { cls := .type "slice", data := .fields #[vl, vu, vs] } } := I4.kept (t' := s4.toks) fun b ob z => Heap.get?_push_of_some _ z
  obtain ⟨its, r, ht, hz⟩ := I5.tuple hx
  have len := r.length
  refine (?_ : wpAny (model X.prog X.w) X.A (subscriptTail e _ (.ref a) (.ref s4.heap.objs.size)) (EP X pins σ Q) X.xe _)
  refine tail_any (ops := [.ref a, .ref s4.heap.objs.size]) ht.typeIs (PyProof.Rows.slot_tuple_getitem.lookup) ?_ (by with_unfolding_all rfl)
  refine item_back ht (Heap.IsSliceOf.new _ vl vu vs) pl pu ps ?_ (by rw [List.size_toArray]; omega)
  exact lay_new (n := 0) I5 (by rw [List.length_reverse]; exact hz) r.reverse q
/-- t == u, t != u: one of them has no items -/
def rEmT (K : PySem.W.Frag) (f : Bool → Bool) : R2 := fun x y H Q => ∃ a b xs, x = .ref a ∧ y = .ref b ∧ SqT K H a xs ∧ SqT K H b [] ∧ Q (.bl (f xs.isEmpty)) H
theorem op_eqEmT (hu : X.A.units < cLine) : OpR X (compareOp .Eq) (rEmT X.K id) := by
  intro pins s σ H x y v u Q I rx ry h
  obtain ⟨a, b, xs, rfl, rfl, ha, hb, q⟩ := h
  cases rx
  cases ry
  obtain ⟨i1, r1, t1, _⟩ := I.tuple ha
  obtain ⟨i2, r2, t2, _⟩ := I.tuple hb
  cases r2
  refine SeqAt.eq_tupleAt (e := fun _ => true) t1 t2 hu (fun j h1 h2 => absurd h2 (Nat.not_lt_zero j)) ?_
  refine ⟨.bl (id xs.isEmpty), H, I, ?_, q⟩
  have l := r1.length
  cases xs with
  | nil =>
    cases r1
    rfl
  | cons y ys =>
    cases i1 with
    | nil => cases l
    | cons z zs => rfl
theorem op_neEmT (hu : X.A.units < cLine) : OpR X (compareOp .NotEq) (rEmT X.K not) := by
  intro pins s σ H x y v u Q I rx ry h
  obtain ⟨a, b, xs, rfl, rfl, ha, hb, q⟩ := h
  cases rx
  cases ry
  obtain ⟨i1, r1, t1, _⟩ := I.tuple ha
  obtain ⟨i2, r2, t2, _⟩ := I.tuple hb
  cases r2
  refine SeqAt.RcNeAt.tuples (e := fun _ => true) t1 t2 hu (fun j h1 h2 => absurd h2 (Nat.not_lt_zero j)) _ _ _ _ ?_
  refine ⟨.bl (not xs.isEmpty), H, I, ?_, q⟩
  have l := r1.length
  cases xs with
  | nil =>
    cases r1
    rfl
  | cons y ys =>
    cases i1 with
    | nil => cases l
    | cons z zs => rfl
end
end Xt
namespace Xt
open PySem PySem.Spec PyProof.Rows L2 Gy
/-- l == []: a list and one without items -/
def rEmL (K : PySem.W.Frag) : R2 := fun x y H Q => ∃ a b xs, x = .ref a ∧ y = .ref b ∧ SqL K H a xs ∧ SqL K H b [] ∧ Q (.bl xs.isEmpty) H
theorem op_eqEmL {X : Cx} (hu : X.A.units < cLine) : OpR X (compareOp .Eq) (rEmL X.K) := by
  intro pins s σ H x y v u Q I rx ry h
  obtain ⟨a, b, xs, rfl, rfl, ha, hb, q⟩ := h
  cases rx
  cases ry
  obtain ⟨i1, r1, t1, _⟩ := I.list ha
  obtain ⟨i2, r2, t2, _⟩ := I.list hb
  cases r2
  cases xs with
  | nil =>
    cases r1
    exact SeqAt.eq_listAt (e := fun _ => true) t1.isList t2.isList rfl hu (fun j h1 h2 => absurd h2 (Nat.not_lt_zero j)) ⟨.bl true, H, I, rfl, q⟩
  | cons y ys =>
    cases r1 with
    | cons h t =>
      exact SeqAt.eq_list_lengthsAt t1.isList t2.isList (by simp) hu ⟨.bl false, H, I, rfl, q⟩
end Xt

/-! sorted of a tuple of texts. -/
namespace Xt
open PySem PySem.Spec PyProof.Rows L2 Gy
section
variable {prog : Program} {w : World} {A : Around} {E : Value → Shared → Prop} {s : Shared}
theorem isTup_get {h : Heap} {a : Addr} {xs : Array Value} (t : h.IsTuple a xs) : ∃ o n, h.get? a = some o ∧ o.cls = .type "tuple" ∧ o.data = .seq xs n := by
  obtain ⟨o, ho, hc, n, hd⟩ := t
  exact ⟨o, n, ho, hc, hd⟩
/-- the heap behind the items of a tuple were taken -/
def took (h : Heap) (vs : List Value) : Heap := Heap.update (h.push (seqObj "list" #[] 0)) h.objs.size (Obj.mapSeq (· ++ vs.toArray))
theorem collect_tup {l : Addr} {vs : List Value} {o : Obj} {n : Nat} {Q : List Value → Shared → Prop} (ho : s.heap.get? l = some o) (hc : o.cls = .type "tuple") (hd : o.data = .seq vs.toArray n) (hz : vs.length ≤ sizeLine)
    (h : Q vs { s with heap := took s.heap vs }) : wpAny (model prog w) A (collect (.ref l)) Q E s := by
  unfold collect
  have new := Heap.get?_push_size (h := s.heap) (o := seqObj "list" #[] 0)
  refine wpAny_bind (wpAny_runValue (codeAny_builtin entry_proto_collect' ?_))
  show wpAny _ _ (newList [] >>= fun r => again (.builtin "list.__iadd__" ⟨[r, .ref l], []⟩)) _ _ s
  refine wpAny_bind (wpAny_newList (wpAny_pure ⟨Code.quiet_builtin _ (by decide +kernel), codeAny_builtin entry_list_iadd' ?_⟩))
  refine (?_ : wpAny _ _ (Builtin.List.listExtendWith _ (.ref l) _) _ _ _)
  unfold Builtin.List.listExtendWith
  have hold : Heap.get? (s.heap.push (seqObj "list" #[] 0)) l = some o := Heap.get?_push_of_some _ ho
  refine wpAny_bind (wpAny_typeOf (T := "tuple") ⟨o, hold, hc⟩ ?_)
  rw [if_pos (by rw [show (Value.type "tuple" == Value.type "tuple") = true by rfl]; simp)]
  refine wpAny_bind (listItems_at hold hd ?_)
  refine wpAny_bind (listItems_at (n := 0) (xs := #[]) (Heap.get?_push_size s.heap rfl) rfl ?_)
  rw [if_neg (by simp)]
  refine wpAny_bind (listUpdate_at (n := 0) (xs := #[]) (Heap.get?_push_size s.heap rfl) rfl ?_ (Nat.zero_le _) ?_)
  · refine wpAny_pure ?_
    refine wpAny_bind (wpAny_load (get?_update_seq (Heap.get?_push_size s.heap rfl) _) ?_)
    refine wpAny_pure ?_
    have e : ((#[] : Array Value) ++ vs.toArray).toList = vs := by simp
    rw [e]
    exact h
  · rw [Array.size_append, List.size_toArray]
    show 0 + vs.length ≤ sizeLine + 1
    omega
theorem sorted_tup {l : Addr} {vs : List Value} {ss : List Str} {o : Obj} {n : Nat} {Q : Value → Shared → Prop} (ho : s.heap.get? l = some o) (hc : o.cls = .type "tuple") (hd : o.data = .seq vs.toArray n) (hS : StrsAre vs ss) (h64 : vs.length < 64)
    (h : ∀ (out : Array Value) (zs : List Str), StrsAre out.toList zs → zs.Perm ss → sortedS zs = true → Q (.ref (s.heap.objs.size + 1)) { s with heap := sortedAll s.heap vs out }) :
    wpAny (model prog w) A (call (.builtin "sorted") [.ref l]) Q E s := by
  refine Calls.call_function_entry kind_sorted plain_sorted entry_sorted (args_sorted1 _) ?_
  unfold Builtin.«sorted»
  refine wpAny_bind (m := checkCount "sorted" 1 1 _) (wpAny_pure ?_)
  refine wpAny_bind (collect_tup ho hc hd (small64 h64) ?_)
  refine wpAny_bind (wpAny_newList ?_)
  have sz : (took s.heap vs).objs.size = s.heap.objs.size + 1 := (Heap.size_update ..).trans (size_push' ..)
  have at1 : Heap.get? ((took s.heap vs).push (seqObj "list" vs.toArray 0)) (s.heap.objs.size + 1) = some (seqObj "list" vs.toArray 0) := by
    rw [← sz]
    exact Heap.get?_push_size _ rfl
  refine (?_ : wpAny _ _ _ _ _ { s with heap := (took s.heap vs).push (seqObj "list" vs.toArray 0) })
  dsimp only
  rw [sz]
  refine wpAny_bind (wpAny_holding (wpAny_call_entry slot_list_sort ⟨_, at1, rfl⟩ entry_list_sort (list_sort_treeK strKind_oneLt at1 hS.keysOf (fun v₁ v₂ rest e => keyKind_strs (by rw [← e]; exact hS)) h64 fun st hp hs => ⟨_, rfl, ?_⟩) (args_list_sort _)))
  obtain ⟨zs, h1, h2, h3⟩ := sorted_out_str hS hp hs
  exact wpAny_pure ⟨_, rfl, h _ zs h1 h2 h3⟩
end
section
variable {X : Cx}
/-- sorted of a list or a tuple of texts -/
def rSortX (K : PySem.W.Frag) : List V → Hp → VK → Prop := fun vs H Q => ∃ (a : Addr) (xs : List Str), vs = [.ref a] ∧ (SqL K H a (xs.map V.str) ∨ SqT K H a (xs.map V.str)) ∧ xs.length < 64 ∧
  ∀ (ys : List Str) (p : Addr), ys.Perm xs → sortedS ys = true → H p = none → Q (.ref p) (upd H p (.lst (ys.map V.str)))
theorem cr_sortX : CallR X (.builtin "sorted") (rSortX X.K) := by
  intro pins s σ H vs us Q I r h
  obtain ⟨a, xs, rfl, hs | hs, h64, q⟩ := h
  · exact cr_sortedS pins s σ H _ us Q I r ⟨a, xs, rfl, hs, h64, q⟩
  · obtain ⟨its, rv, ⟨o, ho, hc, n, hd⟩, _⟩ := I.tuple hs
    rw [Vals.ref1 r]
    have len := rv.length
    rw [List.length_map] at len
    refine sorted_tup ho hc hd rv.strs (by rw [← len]; exact h64) fun out ys h1 h2 h3 => ?_
    obtain ⟨ep, he⟩ := PyProof.Rows.sortedAll_at s.heap its out
    have lz : (ys.map V.str).length ≤ sizeLine := by
      rw [List.length_map, h2.length_eq]
      exact small64 h64
    exact ⟨.ref _, upd H (s.heap.objs.size + 1) (.lst (ys.map V.str)), I.laid (t' := s.toks) (fun _ _ => PyProof.Rows.sortedAll_old) (Nat.le_succ _) ⟨lz, out.toList, ep, vals_of_strs h1, he⟩, rfl, q ys _ h2 h3 (I.hok.fresh (Nat.le_succ _))⟩
end
end Xt

/-! In an except suite: isinstance of the caught error with a tuple of classes. -/
namespace Xl
open PySem PySem.Spec PyProof.Rows L2 Gy Xt
def rIsT (K : PySem.W.Frag) (a : Addr) (cls : Value) (d : Option Addr) : List V → Hp → VK → Prop := fun xs H Q => ∃ (D dd tp : Addr) (fs : List (Str × V)) (cs : List V) (b : Bool),
  xs = [.ref a, .ref tp] ∧ cls = .ref D ∧ d = some dd ∧ H dd = some (.xd fs) ∧ XCl K D ∧ Tz H tp cs ∧ (∀ its, Vals cs its → PySem.W.kitAny K (.ref D) its = some b) ∧ Q (.bl b) H
theorem call_isT {X : Cx} {a : Addr} {oe : Obj} {cls : Value} {d : Option Addr} {pn : List (Addr × Obj)} (cg : PySem.W.specialIn X.K (.builtin "object.__class__") "__get__" = some (some (.builtin "getset_descriptor.__get__")))
    (ct : PySem.W.takesIn X.K (.builtin "object.__class__") = some true) (hz : Zc cls d oe) (hf : ∃ vs, oe.data = .fields vs) : CallR (X.suite a ((a, oe) :: pn)) (.builtin "isinstance") (rIsT X.K a cls d) := by
  intro pins s σ H xs us Q I r h
  obtain ⟨D, dd, tp, fs, cs, b, rfl, rfl, rfl, hd, T, hc, e, q⟩ := h
  obtain ⟨u1, u2, rfl, r1, r2⟩ := vals2 r
  cases r1
  cases r2
  obtain ⟨its, rv, ⟨o, ho, hcl, n, hda⟩, _⟩ := I.tuple hc.sq
  have e' := e its rv
  obtain ⟨ha, _⟩ := I.pin (a, oe) (List.mem_append_left _ List.mem_cons_self)
  obtain ⟨vs, hv⟩ := hf
  obtain ⟨mA, ns, _⟩ := (show ObjOk X.prog X.w H s.heap dd (.xd fs) from I.hok dd _ hd)
  obtain ⟨od, go, _⟩ := lookIn_ns ns
  have cl : (PySem.W.clsIn X.K D).isSome = true := by
    obtain ⟨cd, z, _⟩ := PySem.W.any_some T.hd
    rw [z]
    rfl
  have J : PySem.W.InstAt s.heap a oe D (some od) := by
    obtain ⟨oc, odd, oda, osl⟩ := oe
    obtain ⟨h1, h2⟩ := hz
    dsimp only at h1 h2 hv
    subst h1 h2 hv
    exact ⟨ha, rfl, rfl, go⟩
  obtain ⟨oc, od2, oda, osl⟩ := o
  dsimp only at hcl hda
  subst hcl hda
  exact PySem.W.kia_tup (its := its) (n := n) (PySem.W.kitx_exc cl T.ga T.gg T.ex T.ca cg ct T.ob) I.kIn J ho e' (fun z => nomatch z) fun tk => ⟨.bl b, H, I.tok tk, rfl, q⟩
end Xl

/-! Data at any depth, with dicts without entries anywhere in it: how it is read and shown. -/
namespace Gy
open PySem PySem.Spec PyProof.Rows L2 Xt
mutual
inductive Dn (K : PySem.W.Frag) (H : Hp) : V → PyData → Prop
  | non : Dn K H .non .none
  | bl (b : Bool) : Dn K H (.bl b) (.bool b)
  | int (i : Int) : Dn K H (.int i) (.int i)
  | str (x : Str) : Dn K H (.str x) (.str x)
  | lst {a : Addr} {xs : List V} {ds : List PyData} (h : H a = some (.lst xs)) (t : Dns K H xs ds) : Dn K H (.ref a) (.list ds)
  | tup {a : Addr} {xs : List V} {ds : List PyData} (h : Tz H a xs) (t : Dns K H xs ds) : Dn K H (.ref a) (.tuple ds)
  | dic {a : Addr} (h : H a = some (.dK [])) : Dn K H (.ref a) (.dict [])
inductive Dns (K : PySem.W.Frag) (H : Hp) : List V → List PyData → Prop
  | nil : Dns K H [] []
  | cons {v : V} {vs : List V} {d : PyData} {ds : List PyData} (h : Dn K H v d) (t : Dns K H vs ds) : Dns K H (v :: vs) (d :: ds)
end
mutual
theorem Dn.same {K : PySem.W.Frag} {H H' : Hp} (s : Same H H') : ∀ {v : V} {d : PyData}, Dn K H v d → Dn K H' v d
  | _, _, .non => .non
  | _, _, .bl b => .bl b
  | _, _, .int i => .int i
  | _, _, .str x => .str x
  | _, _, .lst h a => .lst (s _ _ h) (Dns.same s a)
  | _, _, .tup h a => .tup (h.same s) (Dns.same s a)
  | _, _, .dic h => .dic (s _ _ h)
theorem Dns.same {K : PySem.W.Frag} {H H' : Hp} (s : Same H H') : ∀ {vs : List V} {ds : List PyData}, Dns K H vs ds → Dns K H' vs ds
  | _, _, .nil => .nil
  | _, _, .cons h t => .cons (Dn.same s h) (Dns.same s t)
end
/-- a dict without entries, as the model has it -/
theorem dict_at {X : Cx} {pins : List (Addr × Obj)} {σ : L2.St} {H : Hp} {s : Shared} (I : Inv X pins σ H s) {a : Addr} (h : H a = some (.dK [])) :
    (a == sysModules) = false ∧ ∃ o es ep, s.heap.get? a = some o ∧ o.cls = .type "dict" ∧ o.data = .dict es ep ∧ es.toList = [] ∧ Reads s.heap (.ref a) (.dict []) [a] := by
  obtain ⟨_, ns, vs, kv, o, es, ep, g1, ex, g2, ks, ps, _⟩ := (show ObjOk X.prog X.w H s.heap a (.dK []) from I.hok a _ h)
  cases kv
  have e : es.toList = [] := by
    generalize es.toList = l at ps
    cases ps
    rfl
  exact ⟨ns, o, es, ep, g1, ex.1, g2, e, .dict g1 ex.1 g2 (as := []) (bs := []) (by rw [e]; exact .nil) (by rw [e]; exact .nil)⟩
section
variable {X : Cx} {pins : List (Addr × Obj)} {σ : L2.St} {H : Hp} {s : Shared}
mutual
theorem Dn.shows (I : Inv X pins σ H s) : ∀ {v : V} {d : PyData} {u : Value}, Dn X.K H v d → RelV v u → d.showable = true → d.shown.length ≤ sizeLine →
    ∃ as bs, Reads s.heap u d as ∧ ReadAtMost s.heap d.depth bs ∧ ReprK X.prog X.w bs s.heap d.depth u d.shown
  | _, _, _, .non, r, hs, hz => by
    cases r
    obtain ⟨bs, h1, h2⟩ := ReprK.of_reads (prog := X.prog) (w := X.w) (h₀ := s.heap) Reads.none hs (fun z => nomatch z) hz
    exact ⟨_, bs, .none, h1, h2⟩
  | _, _, _, .bl b, r, hs, hz => by
    cases r
    obtain ⟨bs, h1, h2⟩ := ReprK.of_reads (prog := X.prog) (w := X.w) (h₀ := s.heap) (Reads.bool b) hs (fun z => nomatch z) hz
    exact ⟨_, bs, .bool b, h1, h2⟩
  | _, _, _, .int i, r, hs, hz => by
    obtain ⟨t, rfl⟩ := r
    obtain ⟨bs, h1, h2⟩ := ReprK.of_reads (prog := X.prog) (w := X.w) (h₀ := s.heap) (Reads.int i t) hs (fun z => nomatch z) hz
    exact ⟨_, bs, .int i t, h1, h2⟩
  | _, _, _, .str x, r, hs, hz => by
    obtain ⟨t, rfl⟩ := r
    obtain ⟨bs, h1, h2⟩ := ReprK.of_reads (prog := X.prog) (w := X.w) (h₀ := s.heap) (Reads.str x t) hs (fun z => nomatch z) hz
    exact ⟨_, bs, .str x t, h1, h2⟩
  | _, _, _, .lst (a := a) (ds := ds) h ha, r, hs, hz => by
    cases r
    have hz' : (listText (PyData.shownAll ds)).length ≤ sizeLine := by simpa only [PyData.shown] using hz
    obtain ⟨its, rv, ⟨o, n, ho, hc, _, hd⟩, _⟩ := I.list (SqL.of h)
    obtain ⟨as, bs, hr, hb, hk⟩ := Dns.shows I ha rv (by simpa [PyData.showable] using hs) (fun t ht => Nat.le_trans (listText_mem_le ht) hz')
    have q : Reads s.heap (.ref a) (.list ds) _ := .list ho hc hd hr
    have hna : a ∉ bs := not_mem_of_deeper q (by simp only [PyData.depth]; omega) hb
    refine ⟨_, a :: bs, q, ReadAtMost.cons q (by simp only [PyData.depth]; omega) hb, ?_⟩
    simp only [PyData.depth, PyData.shown]
    cases its with
    | nil =>
      cases hr
      simp only [PyData.shownAll, listText_nil]
      exact ReprK.listEmpty ho hc hd
    | cons x l => exact ReprK.list ho hc hd hna (by simpa using hk.length_eq) (fun i y e => hk.item i y (by simpa using e))
  | _, _, _, .tup (a := a) (ds := ds) h ha, r, hs, hz => by
    cases r
    have hz' : (tupleText (PyData.shownAll ds)).length ≤ sizeLine := by simpa only [PyData.shown] using hz
    obtain ⟨its, rv, ⟨o, ho, hc, n, hd⟩, _⟩ := I.tuple h.sq
    obtain ⟨as, bs, hr, hb, hk⟩ := Dns.shows I ha rv (by simpa [PyData.showable] using hs) (fun t ht => Nat.le_trans (tupleText_mem_le ht) hz')
    have q : Reads s.heap (.ref a) (.tuple ds) _ := .tuple ho hc hd hr
    have hna : a ∉ bs := not_mem_of_deeper q (by simp only [PyData.depth]; omega) hb
    refine ⟨_, a :: bs, q, ReadAtMost.cons q (by simp only [PyData.depth]; omega) hb, ?_⟩
    simp only [PyData.depth, PyData.shown]
    exact ReprK.tuple ho hc hd hna hk
  | _, _, _, .dic (a := a) h, r, hs, hz => by
    cases r
    obtain ⟨ns, o, es, ep, ho, hc, hd, he, q⟩ := dict_at I h
    refine ⟨_, [a], q, ReadAtMost.cons q (n := 0) (Nat.zero_le _) (fun _ z => nomatch z), ?_⟩
    exact ReprK.dict (as := []) (d := 0) (ps := []) ho hc hd ns (fun z => nomatch z) (by rw [he]; exact .nil)
theorem Dns.shows (I : Inv X pins σ H s) : ∀ {vs : List V} {ds : List PyData} {us : List Value}, Dns X.K H vs ds → Vals vs us → PyData.showableAll ds = true → (∀ t ∈ PyData.shownAll ds, t.length ≤ sizeLine) →
    ∃ as bs, ReadsAll s.heap us ds as ∧ ReadAtMost s.heap (PyData.depthAll ds) bs ∧ ReprAllK X.prog X.w bs s.heap (PyData.depthAll ds) us (PyData.shownAll ds)
  | _, _, _, .nil, .nil, _, _ => ⟨[], [], .nil, (fun _ h => nomatch h), .nil⟩
  | _, _, _, .cons (d := d) (ds := ds) h hs, .cons r rs, sh, len => by
    have sh2 : d.showable = true ∧ PyData.showableAll ds = true := by simpa only [PyData.showableAll, Bool.and_eq_true] using sh
    obtain ⟨as, b1, rd, m1, k1⟩ := Dn.shows I h r sh2.1 (len _ List.mem_cons_self)
    obtain ⟨as2, b2, rd2, m2, k2⟩ := Dns.shows I hs rs sh2.2 fun t ht => len t (List.mem_cons_of_mem _ ht)
    have l1 : d.depth ≤ PyData.depthAll (d :: ds) := Nat.le_max_left _ _
    have l2 : PyData.depthAll ds ≤ PyData.depthAll (d :: ds) := Nat.le_max_right _ _
    refine ⟨as ++ as2, b1 ++ b2, .cons rd rd2, (m1.mono l1).append (m2.mono l2), ?_⟩
    exact .cons ((k1.more fun b hb => List.mem_append_left _ hb).level_le l1) (k2.more_le (fun b hb => List.mem_append_right _ hb) l2)
end
end
/-- repr of any such value -/
def rReprN (K : PySem.W.Frag) : List V → Hp → VK → Prop := fun xs H Q => ∃ v d, xs = [v] ∧ Dn K H v d ∧ d.showable = true ∧ d.depth ≤ 60 ∧ d.shown.length ≤ sizeLine ∧ Q (.str d.shown) H
theorem repr_dn {X : Cx} (hg : X.A.guards = some []) (hu : X.A.units + 70 < cLine) : CallR X (.builtin "repr") (rReprN X.K) := by
  intro pins s σ H xs us Q I r h
  obtain ⟨v, d, rfl, dn, sh, dp, len, q⟩ := h
  obtain ⟨u, rfl, ru⟩ := vals1 r
  have fin : ∀ (h' : Heap) (x : Tok) (tk : Nat), (∀ b o, s.heap.get? b = some o → h'.get? b = some o) → ∃ y H', Inv X pins σ H' { s with heap := h', toks := tk } ∧ RelV y (.str d.shown x) ∧ Q y H' := fun h' x tk hk => ⟨.str d.shown, H, I.kept hk, ⟨x, rfl⟩, q⟩
  cases dn with
  | non =>
    cases ru
    exact P.repr_of_none ⟨.str "None", H, I.tok _, ⟨_, rfl⟩, q⟩
  | bl b =>
    cases ru
    exact P.repr_of_bool ⟨.str (PyData.shown (.bool b)), H, I.tok _, ⟨_, by cases b <;> rfl⟩, q⟩
  | int i =>
    obtain ⟨t, rfl⟩ := ru
    exact P.repr_of_int (by simpa [PyData.showable] using sh) ⟨.str (toString i), H, I.tok _, ⟨_, rfl⟩, q⟩
  | str x =>
    obtain ⟨t, rfl⟩ := ru
    exact P.repr_of_str ⟨.str (reprText x), H, I.tok _, ⟨_, rfl⟩, q⟩ len
  | @lst a ys ds h ha =>
    cases ru
    have len' : (listText (PyData.shownAll ds)).length ≤ sizeLine := by simpa only [PyData.shown] using len
    obtain ⟨its, rv, ⟨o, n, g1, g2, _, g3⟩, _⟩ := I.list (SqL.of h)
    obtain ⟨as, bs, rd, at_, sw⟩ := Dns.shows I ha rv (by simpa [PyData.showable] using sh) fun t ht => Nat.le_trans (listText_mem_le ht) len'
    have out : a ∉ bs := not_mem_of_deeper (.list g1 g2 g3 rd) (by simp only [PyData.depth]; omega) at_
    refine call_repr_slot (T := "list") (idr := "list.__repr__") (by omega) ⟨o, g1, g2⟩ F.slot_list_repr.toG ?_
    match its, rv, g3, rd, sw with
    | [], rv, g3, rd, _ =>
      cases rd
      exact call_list_repr_empty ⟨o, g1, g2⟩ g1 g3 ⟨_, _, rfl, .str "[]", H, I.tok _, ⟨_, rfl⟩, by simpa only [PyData.shown, PyData.shownAll, listText_nil] using q⟩
    | x :: rest, _, g3, _, sw =>
      refine call_list_reprK g1 g2 g3 out (by simpa using sw.length_eq) (fun i y e => sw.item i y (by simpa using e)) (g := []) hg (fun b _ => Clear.nil b) (d := PyData.depthAll ds) ?_ (fun _ _ e => e) (fun h' u tk hk => ⟨_, _, rfl, fin h' u tk hk⟩) len'
      simp only [PyData.depth] at dp
      show X.A.units + 1 + (PyData.depthAll ds + 1) < cLine
      omega
  | @tup a ys ds h ha =>
    cases ru
    have len' : (tupleText (PyData.shownAll ds)).length ≤ sizeLine := by simpa only [PyData.shown] using len
    obtain ⟨its, rv, ⟨o, g1, g2, n, g3⟩, _⟩ := I.tuple h.sq
    obtain ⟨as, bs, rd, at_, sw⟩ := Dns.shows I ha rv (by simpa [PyData.showable] using sh) fun t ht => Nat.le_trans (tupleText_mem_le ht) len'
    have out : a ∉ bs := not_mem_of_deeper (.tuple g1 g2 g3 rd) (by simp only [PyData.depth]; omega) at_
    refine call_repr_slot (T := "tuple") (idr := "tuple.__repr__") (by omega) ⟨o, g1, g2⟩ F.slot_tuple_repr ?_
    refine call_tuple_reprK g1 g2 g3 out sw (g := []) hg (fun b _ => Clear.nil b) (d := PyData.depthAll ds) ?_ (fun _ _ e => e) (fun h' u tk hk => ⟨_, _, rfl, fin h' u tk hk⟩) len'
    simp only [PyData.depth] at dp
    show X.A.units + 1 + (PyData.depthAll ds + 1) < cLine
    omega
  | @dic a h =>
    cases ru
    obtain ⟨ns, o, es, ep, g1, g2, g3, he, _⟩ := dict_at I h
    refine call_repr_slot (T := "dict") (idr := "dict.__repr__") (by omega) ⟨o, g1, g2⟩ F.slot_dict_repr ?_
    refine call_dict_reprK (as := []) (d := 0) (ps := []) g1 g2 g3 ns (fun z => nomatch z) (by rw [he]; exact .nil) (g := []) hg (fun b _ => Clear.nil b) ?_ (fun _ _ e => e) (fun h' u tk hk => ⟨_, _, rfl, fin h' u tk hk⟩) len
    show X.A.units + 1 + (0 + 1) < cLine
    omega
end Gy

/-! len(set(t)) of a tuple of texts, of any number of them. -/
namespace Xs
open PySem PySem.Spec PyProof.Rows L2
/-- how many different ones the first i are -/
def numd (xs : List Str) : Nat → Nat
  | 0 => 0
  | i + 1 => if xs.getD i Str.empty ∈ xs.take i then numd xs i else numd xs i + 1
theorem numd_le (xs : List Str) : ∀ i, numd xs i ≤ i
  | 0 => Nat.le_refl _
  | i + 1 => by
    have := numd_le xs i
    unfold numd
    split <;> omega
theorem numd_full (xs : List Str) : ∀ i, i ≤ xs.length → (numd xs i = i ↔ (xs.take i).Nodup)
  | 0, _ => by simp [numd]
  | i + 1, hi => by
    have lt : i < xs.length := hi
    have ih := numd_full xs i (Nat.le_of_lt lt)
    have le := numd_le xs i
    have e : xs.getD i Str.empty = xs[i] := by rw [List.getD_eq_getElem?_getD, List.getElem?_eq_getElem lt]; rfl
    have t : xs.take (i + 1) = xs.take i ++ [xs[i]] := by rw [List.take_add_one, List.getElem?_eq_getElem lt]; rfl
    unfold numd
    rw [e, t]
    by_cases m : xs[i] ∈ xs.take i
    · rw [if_pos m]
      refine ⟨fun z => by omega, fun z => ?_⟩
      rw [List.nodup_append] at z
      exact absurd rfl (z.2.2 _ m _ List.mem_cons_self)
    · rw [if_neg m]
      refine ⟨fun z => ?_, fun z => ?_⟩
      · rw [List.nodup_append]
        refine ⟨ih.mp (by omega), by simp, fun a ha b hb ab => ?_⟩
        rw [List.mem_singleton.mp hb] at ab
        exact m (ab ▸ ha)
      · rw [List.nodup_append] at z
        rw [ih.mpr z.1]
section
variable {P : Program} {w : World} {A : Around} {R : Result → Shared → Prop} {J : Addr} {fp wr : List Addr} {G : Array GenState → Array GenState → Prop} {n : Nat} {Y : Nat → Value → Prop} {Z : Nat → Shared → Prop}
/-- the set takes text after text -/
theorem take_texts (W : WalksS P w A.in1 J fp wr G n Y Z) (S : Addr) (out : S ∉ fp) (xs : List Str) (len : xs.length = n) (room : n + 1 < scanBound) (val : ∀ i v, Y i v → ∃ t, v = .str (xs.getD i Str.empty) t) :
    ∀ (k i : Nat) (s : Shared), n - i = k → i ≤ n → Z i s → s.heap.SetOf (strKind P w) S (fun x => decide (x ∈ xs.take i)) (numd xs i) →
      (∀ s2, Moved (S :: wr) G s s2 → s2.heap.SetOf (strKind P w) S (fun x => decide (x ∈ xs.take n)) (numd xs n) → R (.ok (.ret .none)) s2) →
      codeAny (model P w) A (.builtin "set.update.loop" ⟨[.ref S, .ref J], []⟩) R s := by
  have out2 : S ∉ wr := fun h => out (W.sub _ h)
  have more : ∀ b ∈ wr, b ∈ S :: wr := fun b hb => List.mem_cons_of_mem _ hb
  intro k
  induction k with
  | zero =>
    intro i s ek le z hS fin
    obtain rfl : i = n := by omega
    refine codeAny_builtin PyProof.Rows.F.entry_set_update_loop ?_; rw [Around.under_plainId PyProof.Rows.F.plain_set_update_loop _]
    show wpAny _ A.in1 (pyNext (.ref J) >>= _) _ _ s
    refine wpAny_bind (W.done s _ _ z fun s2 mv => ?_)
    obtain ⟨o, es, ep, t, ho, rest⟩ := hS
    exact wpAny_pure (fin s2 (mv.mono more) ⟨o, es, ep, t, mv.heap S _ out2 ho, rest⟩)
  | succ k ih =>
    intro i s ek le z hS fin
    have lt : i < n := by omega
    refine codeAny_builtin PyProof.Rows.F.entry_set_update_loop ?_; rw [Around.under_plainId PyProof.Rows.F.plain_set_update_loop _]
    show wpAny _ A.in1 (pyNext (.ref J) >>= _) _ _ s
    refine wpAny_bind (W.item i s _ _ lt z fun v s2 hY z2 mv => ?_)
    obtain ⟨t, rfl⟩ := val i v hY
    have hS2 : s2.heap.SetOf (strKind P w) S (fun x => decide (x ∈ xs.take i)) (numd xs i) := by
      obtain ⟨o, es, ep, tb, ho, rest⟩ := hS
      exact ⟨o, es, ep, tb, mv.heap S _ out2 ho, rest⟩
    show wpAny _ A.in1 (holding [Value.str (xs.getD i Str.empty) t] (setAdd S (.str (xs.getD i Str.empty) t)) >>= _) _ _ s2
    refine wpAny_bind (wpAny_holding ?_); unfold setAdd; refine wpAny_holding ?_
    refine wpAny_bind ((strKind P w).pyHash (k := xs.getD i Str.empty) (strKind_is _ _ _ _) ?_)
    have nl := numd_le xs i
    refine wpAny_setAddHashed_of (knd := strKind P w) (s := { s2 with toks := s2.toks + 1 }) (strKind_is _ _ _ _) rfl hS2 (by omega) fun h3 sb hS3 => ?_
    have hS4 : h3.SetOf (strKind P w) S (fun x => decide (x ∈ xs.take (i + 1))) (numd xs (i + 1)) := by
      have lt' : i < xs.length := by omega
      have e : xs.getD i Str.empty = xs[i] := by rw [List.getD_eq_getElem?_getD, List.getElem?_eq_getElem lt']; rfl
      have t : xs.take (i + 1) = xs.take i ++ [xs[i]] := by rw [List.take_add_one, List.getElem?_eq_getElem lt']; rfl
      refine SetOf_congr hS3 (fun x => ?_) ?_
      · show (decide (x ∈ xs.take i) || decide (x = xs.getD i Str.empty)) = decide (x ∈ xs.take (i + 1))
        rw [e, ← Bool.decide_or]
        congr 1
        rw [t, List.mem_append, List.mem_singleton]
      · show _ = if xs.getD i Str.empty ∈ xs.take i then numd xs i else numd xs i + 1
        simp only [decide_eq_true_eq]
    refine wpAny_pure ⟨plainId_quiet PyProof.Rows.F.plain_set_update_loop _, ih (i + 1) _ (by omega) lt (W.frame _ s2 _ _ z2 (Nat.le_succ _) fun b hb o e => ?_) hS4 fun s4 mv4 hS5 => ?_⟩
    · rw [sb.2 b (fun h : b = S => out (h ▸ hb))]
      exact e
    · refine fin s4 (Moved.trans W.gtrans ((mv.mono more).then_heap (Nat.le_succ _) fun b o hb e => ?_) mv4) hS5
      rw [sb.2 b (fun h : b = S => hb (h ▸ List.mem_cons_self))]
      exact e
end
/-- the set before anything is in it -/
def set0 (b : Bool) : Obj := { cls := .type "set", dict := none, data := .set #[] 0 (.fresh 0 0 b) }
section
variable {P : Program} {w : World} {A : Around} {E : Value → Shared → Prop} {s : Shared}
set_option maxHeartbeats 3200000 in
theorem set_of_texts {l : Addr} {its : Array Value} {xs : List Str} {Q : Value → Shared → Prop} (calm : A.handled = none) (at_ : s.heap.IsTuple l its) (are : StrsAre its.toList xs) (room : xs.length + 1 < scanBound)
    (fin : ∀ (h2 : Heap) (tk : Nat), h2.SetOf (strKind P w) s.heap.objs.size (fun x => decide (x ∈ xs)) (numd xs xs.length) → (∀ b o, b < s.heap.objs.size → s.heap.get? b = some o → h2.get? b = some o) → Q (.ref s.heap.objs.size) { s with heap := h2, toks := tk }) :
    wpAny (model P w) A (call (.type "set") [.ref l]) Q E s := by
  have sz : xs.length = its.size := by rw [← StrsAre.len_eq are, Array.length_toList]
  obtain ⟨_, _, m0⟩ := PySem.F.called_set.mro
  have m1 := PySem.F.called_set.made; have m2 := PySem.F.called_set.sub
  refine wpAny_call (codeAny_of_tree ?_); show wpAny _ _ (callAny (.type "set") _) _ _ _
  refine wpAny_pure ⟨Code.quiet_builtin _ (by decide +kernel), codeAny_builtin PySem.F.entry_type_call ?_⟩; rw [Around.under_plain (weight_type_call_type "set" [.ref l] []) rfl]
  have m3 := PySem.F.called_set.notType; have m4 := PySem.F.called_set.canCreate; have m5 := PySem.F.typeCall_set_1 (.ref l)
  repeat (any_goals (first | assumption | wp_step))
  refine codeAny_mono (code_set_new_1 (.ref l) (E := E) (Q₁ := fun ob s1 => ∃ led : Bool, ob = .ref s.heap.objs.size ∧ s1 = { s with heap := s.heap.push (set0 led) }) fun led => ⟨led, rfl, rfl⟩) fun r s1 hr => ?_
  rcases r with e | (_ | _ | _ | ob)
  · exact hr
  · exact hr.elim
  · exact hr.elim
  · exact hr.elim
  obtain ⟨led, rfl, rfl⟩ := hr
  have got : (s.heap.push (set0 led)).get? s.heap.objs.size = some (set0 led) := Heap.get?_push_size _ rfl
  have ty : Shared.TypeIs { s with heap := s.heap.push (set0 led) } (.ref s.heap.objs.size) "set" := ⟨_, got, rfl⟩
  have m6 := PySem.F.called_set.init.lookup; have m7 := PySem.F.called_set.init.bind (.ref s.heap.objs.size)
  repeat (any_goals (first | assumption | wp_step))
  refine codeAny_mono (codeAny_call_builtin (R := wants (fun r s2 => r = .none ∧ ∃ h2 tk, s2 = { s with heap := h2, toks := tk } ∧ h2.SetOf (strKind P w) s.heap.objs.size (fun x => decide (x ∈ xs)) (numd xs xs.length) ∧
      (∀ b o, b < s.heap.objs.size → s.heap.get? b = some o → h2.get? b = some o)) E) PySem.F.called_set.init.plain PySem.F.entry_set_init (check_set_init_1 ty ?_)) fun r2 s2 hr2 => ?_
  · obtain ⟨ol, go, co, nl, dl⟩ := at_
    obtain ⟨ocls, odict, odata, oslots⟩ := ol
    simp only at co dl
    subst co dl
    have go2 : (s.heap.push (set0 led)).get? l = some { cls := .type "tuple", dict := odict, data := .seq its nl, slots := oslots } := Heap.get?_push_of_some _ go
    have m8 := PySem.F.sub_tuple_set; have m9 := PySem.F.sub_tuple_frozenset
    have m10 : (Value.type "tuple" == Value.type "dict") = false := by decide
    have at2 : (s.heap.push (set0 led)).IsTuple l its := ⟨_, go2, rfl, nl, rfl⟩
    unfold Builtin.«set.__init__» noKeywords Builtin.Frozenset.updateFrom; generalize ePI : pyIter = PI
    wp_walk
    subst ePI
    refine wpAny_pyIter_tuple at2 (wpAny_bind (wpAny_runValue ?_))
    have low : l < s.heap.objs.size := Heap.lt_size go
    have calm3 : A.in1.in1.in1.handled = none := by simp [calm]
    have far : l ≠ (s.heap.push (set0 led)).objs.size := by rw [Heap.size_push]; exact Nat.ne_of_lt (Nat.lt_succ_of_lt low)
    have out : s.heap.objs.size ∉ [(s.heap.push (set0 led)).objs.size, l] := by
      rw [Heap.size_push]
      simp only [List.mem_cons, List.not_mem_nil, or_false, not_or]
      exact ⟨Nat.ne_of_lt (Nat.lt_succ_self _), Nat.ne_of_gt low⟩
    refine take_texts ((Walks.tuple calm3 _ l far its).toS) s.heap.objs.size out xs sz (by rw [← sz]; exact room) (fun i v hv => SS.strs_at are i v (by rw [Array.getElem?_toList]; exact hv)) (its.size - 0) 0 _ (by omega) (Nat.zero_le _)
      ⟨⟨_, Heap.get?_push_size _ rfl, rfl, rfl⟩, at2.push _⟩ ?first ?last
    case first =>
      have got2 : ((s.heap.push (set0 led)).push { cls := .type "tuple_iterator", data := .fields #[.ref l, .int 0 0] }).get? s.heap.objs.size = some (set0 led) := Heap.get?_push_of_some _ got
      exact SetOf_congr ((setObjOf_fresh (knd := strKind P w) led).setOf got2 (by unfold scanBound; omega)) (fun _ => rfl) rfl
    case last =>
      intro s2 mv hS
      obtain ⟨h2, g2, d2, tk2, os2⟩ := s2
      obtain rfl : g2 = s.gens := mv.gens
      obtain rfl : d2 = s.drawn := mv.drawn
      obtain rfl : os2 = s.os := mv.os
      rw [← sz, List.take_of_length_le (Nat.le_refl _)] at hS
      show wpAny _ _ _ _ _ _
      refine wpAny_pure (wpAny_pure ⟨rfl, h2, tk2, rfl, hS, fun b o lb e => ?_⟩)
      refine mv.heap b o ?_ (Heap.get?_push_of_some _ (Heap.get?_push_of_some _ e))
      rw [Heap.size_push]
      simp only [List.mem_cons, List.not_mem_nil, or_false, not_or]
      exact ⟨Nat.ne_of_lt lb, Nat.ne_of_lt (Nat.lt_succ_of_lt lb)⟩
  · rcases r2 with e | (_ | _ | _ | r)
    · exact hr2
    · exact hr2.elim
    · exact hr2.elim
    · exact hr2.elim
    obtain ⟨rfl, h2, tk, rfl, hS, keep⟩ := hr2
    repeat (any_goals (first | assumption | wp_step))
    exact fin _ _ hS keep
end
section
variable {X : Cx}
/-- len(set(t)), t a tuple of texts -/
def tLenTexts (K : PySem.W.Frag) (ta : TE) : TE := fun σ H Q => ta σ H fun x H1 => ∃ (l : Addr) (xs : List Str), x = .ref l ∧ SqT K H1 l (xs.map V.str) ∧ xs.length ≤ 4000 ∧ Q (.int (numd xs xs.length : Nat)) H1
theorem pe_lenTexts {a : Expr} {ta : TE} {p p2 q pos : Pos} (hg : Gl X "len") (hm : X.mg "len" = none) (hg2 : Gl X "set") (hm2 : X.mg "set" = none) (ha : PE X a ta) (calm : X.calm = true := by rfl)
    (na : starEach [a] X.env = (false, eval a X.env) :: starEach [] X.env := by rfl) : PE X (.Call (.Name "len" p) [.Call (.Name "set" p2) [a] [] q] [] pos) (tLenTexts X.K ta) := by
  refine ⟨fun pins s σ H Q I h => Call_ (ld_blt I hg hm boot_len ?_)⟩
  refine PyProof.Rows.callWith_builtin1 (PyProof.Rows.args_cons (Call_ (ld_blt I hg2 hm2 boot_set ?_)) rfl) rfl rfl
  refine PyProof.Rows.callWith_type1 (PyProof.Rows.args_cons (thn (ha.run pins s σ H _ I h) fun v s1 ⟨x, H1, I1, r1, q1⟩ => PyProof.Rows.args_nil ?_) na) na rfl
  obtain ⟨l, xs, rfl, sq, le, q1⟩ := q1
  cases r1
  obtain ⟨its, r, pl, _⟩ := I1.tuple sq
  refine set_of_texts (I1.ok.hd calm) pl (by simpa using strsAre_of r) (by unfold scanBound; omega) fun h2 tk hS keep => ?_
  refine PyProof.Rows.args_nil ?_
  obtain ⟨o, es, ep, t, ho, ex, hd, _, _, _, hf, hn⟩ := hS
  have I2 : Inv X pins σ H1 { s1 with heap := h2, toks := tk } := I1.kept fun b o e => keep b o (Heap.lt_size e) e
  have nl := numd_le xs xs.length
  exact call_len_set ho ex hd hf (by rw [hn]; omega) ⟨.int (numd xs xs.length : Nat), H1, I2.tok _, ⟨_, by rw [hn]⟩, q1⟩
end
end Xs

/-! Own __len__, own __repr__, a list in an f-string by !r; dict comprehensions over any walk; pairs of texts sorted. -/
namespace Xo
open PySem PySem.Spec PyProof.Rows L2 Gy Xt
section
variable {X : Cx} {pins : List (Addr × Obj)} {σ : L2.St} {H : Hp} {s : Shared}
theorem env_in1 (I : Inv X pins σ H s) : Env0 X.prog X.w X.K X.mg X.base X.A.in1 X.stack s H := by
  have e := I.env0
  exact ⟨e.frames, e.mod, e.bs, e.bsz, e.funs, e.frf, e.hok, e.bare⟩
/-- len(o), o of an own class with a __len__ -/
def rLenO (C : Addr) (sp : Sp) (E : XK) : List V → Hp → VK → Prop := fun xs H Q => ∃ a dx fs, xs = [.ref a] ∧ H a = some (.ins C dx fs) ∧ sp [.ref a] H (fun v H' => ∃ n : Nat, v = .int (n : Int) ∧ n < 9223372036854775808 ∧ Q (.int (n : Int)) H') E
theorem call_lenO {CX : CXT} {k : Nat} {C f : Addr} {fd : FuncData} {ps : List Str} {sp : Sp} {E : XK} (F : FnOk X.prog X.w X.K X.mg X.base CX k f fd ps sp) (hr : Room (k + 1) X.A)
    (hm : Meth X.K C "__len__" f) (hb : Binds X.K fd ps []) (hx : Passes CX X E) : CallR X (.builtin "len") (rLenO C sp E) := by
  intro pins s σ H xs us Q I r h
  obtain ⟨a, dx, fs, rfl, ha, q⟩ := h
  obtain ⟨u, rfl, ru⟩ := vals1 r
  cases ru
  obtain ⟨mA, J, _⟩ := ins_get I.hok ha
  obtain ⟨od, J, _⟩ := J.look
  refine Calls.call_function_entry kind_len plain_len entry_len (args_len1 _) ?_
  unfold Builtin.«len»
  refine wpAny_bind (m := oneArg "len" _) (wpAny_pure ?_)
  refine wpAny_bind (m := callSpecial? (.ref a) (Str.ofString "__len__")) (PySem.W.special_fn I.kIn J hm.at_ (beq_iff_eq.mp hm.fn) ?_)
  have hl := F.len _ _ _ _ q
  refine wpAny_call (codeAny_mono (F.run X.A.in1 X.stack s H ⟨[.ref a], []⟩ [.ref a] [.ref a] _ E hr.in1 (env_in1 I) (by
    have := hb s [.ref a] I.kIn (by simpa using hl)
    simpa using this) (.cons rfl .nil) q) fun r s' hq => ?_)
  cases r with
  | error e => exact hx pins σ H s e s' I hq
  | ok fl =>
    cases fl with
    | ret w =>
      obtain ⟨z, H', I', rz, n, rfl, hn, qq⟩ := I.after hq
      obtain ⟨t, rfl⟩ := rz
      refine wpAny_bind (wpAny_holding (wpAny_pure ?_))
      refine wpAny_bind (wpAny_letGo ?_)
      show wpAny _ _ (if (n : Int) < 0 then _ else _) _ _ _
      rw [if_neg (by omega)]
      show wpAny _ _ (if (n : Int) ≥ 2 ^ 63 then _ else _) _ _ _
      rw [if_neg (by omega)]
      exact wpAny_bind (wpAny_mkInt (wpAny_pure ⟨_, rfl, .int n, H', I'.tok _, ⟨_, rfl⟩, qq⟩))
    | next => exact False.elim hq
    | brk => exact False.elim hq
    | cont => exact False.elim hq
/-- repr(o), o of an own class with a __repr__ -/
def rReprO (C : Addr) (sp : Sp) (E : XK) : List V → Hp → VK → Prop := fun xs H Q => ∃ a dx fs, xs = [.ref a] ∧ H a = some (.ins C dx fs) ∧ sp [.ref a] H (fun v H' => ∃ t : Str, v = .str t ∧ Q (.str t) H') E
theorem call_reprO {CX : CXT} {k : Nat} {C f : Addr} {fd : FuncData} {ps : List Str} {sp : Sp} {E : XK} (F : FnG X.prog X.w X.K X.mg X.base CX k f fd ps sp) (gd : X.A.guards = some []) (hr : Room (k + 1) X.A)
    (hm : Meth X.K C "__repr__" f) (hb : Binds X.K fd ps []) (hx : Passes CX X E) : CallR X (.builtin "repr") (rReprO C sp E) := by
  intro pins s σ H xs us Q I r h
  obtain ⟨a, dx, fs, rfl, ha, q⟩ := h
  obtain ⟨u, rfl, ru⟩ := vals1 r
  cases ru
  obtain ⟨mA, J, _⟩ := ins_get I.hok ha
  obtain ⟨od, J, _⟩ := J.look
  refine Calls.call_function_entry PySem.F.kind_repr PySem.F.plain_repr PySem.F.entry_repr (PySem.F.args_repr1 _) ?_
  unfold Builtin.«repr»
  refine wpAny_bind (m := oneArg "repr" _) (wpAny_pure ?_)
  refine wpAny_bind (m := cRoomFor _ _) (wpAny_cRoomFor hr.in1.units0 ?_)
  refine wpAny_bind (m := specialOf (.ref a) (Str.ofString "__repr__")) (wpAny_bind (J.type.here ((PySem.W.looks_findIn I.kIn hm.at_).here ?_)))
  show wpAny _ _ (if (some (Value.ref f)).isNone = true then _ else _) _ _ _
  rw [if_neg (by simp)]
  refine wpAny_bind (m := callSpecialIfBound? (.ref a) (Str.ofString "__repr__") _) (PySem.W.ifBound_K I.kIn J hm.at_ hm.fn ?_)
  have hl := F.ln q
  refine wpAny_call (codeAny_mono (F.go (A := X.A.in1) (outer := X.stack) (s := s) (args := ⟨[.ref a], []⟩) (us := [.ref a]) (vs := [.ref a]) gd hr.in1 (env_in1 I) (by
    have := hb s [.ref a] I.kIn (by simpa using hl)
    simpa using this) (.cons rfl .nil) q) fun r s' hq => ?_)
  cases r with
  | error e => exact hx pins σ H s e s' I hq
  | ok fl =>
    cases fl with
    | ret w =>
      obtain ⟨z, H', I', rz, n, rfl, qq⟩ := I.after hq
      obtain ⟨t, rfl⟩ := rz
      refine wpAny_bind (wpAny_isInstance (T := "str") (b := true) (typeIs_str _ _ _) isSubtype_str_str ?_)
      first
        | exact wpAny_pure ⟨_, rfl, .str n, H', I', ⟨_, rfl⟩, qq⟩
        | (rw [if_pos rfl]; exact wpAny_pure ⟨_, rfl, .str n, H', I', ⟨_, rfl⟩, qq⟩)
        | (simp only [if_true]; exact wpAny_pure ⟨_, rfl, .str n, H', I', ⟨_, rfl⟩, qq⟩)
    | next => exact False.elim hq
    | brk => exact False.elim hq
    | cont => exact False.elim hq
/-- {e!r}, a list of data -/
def tFmtL (K : PySem.W.Frag) (te : TE) : TE := fun σ H Q => te σ H fun x H1 => ∃ a xs ds, x = .ref a ∧ H1 a = some (.lst xs) ∧ Dns K H1 xs ds ∧ PyData.showableAll ds = true ∧ PyData.depthAll ds ≤ 50 ∧ (PyData.shown (.list ds)).length ≤ sizeLine ∧ Q (.str (PyData.shown (.list ds))) H1
theorem pe_fmtL {e : Expr} {te : TE} {pos : Pos} (hg : X.A.guards = some []) (hu : X.A.units + 70 < cLine) (he : PE X e te) : PE X (.FormattedValue e 114 none pos) (tFmtL X.K te) := by
  refine ⟨fun pins s σ H Q I h => ?_⟩
  refine wpAny_FormattedValue_repr (thn (he.run pins s σ H _ I h) fun v s1 hv => ?_)
  obtain ⟨x, H1, I1, r1, a, ys, ds, rfl, h, ha, sh, dp, len, q⟩ := hv
  cases r1
  have len' : (listText (PyData.shownAll ds)).length ≤ sizeLine := by simpa only [PyData.shown] using len
  have fin : ∀ (h' : Heap) (x : Tok) (tk : Nat), (∀ b o, s1.heap.get? b = some o → h'.get? b = some o) → wpAny (model X.prog X.w) X.A (formatField (.str (PyData.shown (.list ds)) x) Str.empty) (EP X pins σ Q) X.xe { s1 with heap := h', toks := tk } := fun h' x tk hk =>
    wpAny_formatField_str ⟨.str _, H1, I1.kept hk, ⟨x, rfl⟩, q⟩ ⟨.str _, H1, (I1.kept hk).tok _, ⟨_, rfl⟩, q⟩ len
  obtain ⟨its, rv, ⟨o, n, g1, g2, _, g3⟩, _⟩ := I1.list (SqL.of h)
  obtain ⟨as, bs, rd, at_, sw⟩ := Dns.shows I1 ha rv sh fun t ht => Nat.le_trans (listText_mem_le ht) len'
  have out : a ∉ bs := not_mem_of_deeper (.list g1 g2 g3 rd) (by simp only [PyData.depth]; omega) at_
  match its, rv, g3, rd, sw with
  | [], rv, g3, rd, _ =>
    cases rd
    refine wpAny_pyReprObj_list_empty ⟨o, g1, g2⟩ (by omega) g1 g3 ?_
    have z := fin s1.heap s1.toks (s1.toks + 1) (fun _ _ e => e)
    simpa only [PyData.shown, PyData.shownAll, listText_nil] using z
  | x :: rest, _, g3, _, sw =>
    refine wpAny_pyReprObj_listK g1 g2 g3 out (by simpa using sw.length_eq) (fun i y e => sw.item i y (by simpa using e)) (g := []) hg (fun b _ => Clear.nil b) (d := PyData.depthAll ds) ?_ (fun _ _ e => e) (fun h' u tk hk => fin h' u tk hk) len'
    omega
end
/-- a dict comprehension over a walk -/
theorem dc_it {J : It} {n : Nat} {G : Hp → Prop} {Y : Nat → Hp → V → Hp → Prop} (w : Walk J n G Y) {g : TG} {tt : TT} {tk tv : TE} {vs : List Nat} {σ : L2.St} {H1 : Hp} {D : Addr} {Qd : Hp → Prop} (Pv : Nat → Hp → Prop) (h0 : Pv 0 (upd H1 D (.dK []))) (hG : ∀ i H, i ≤ n → Pv i H → G H)
    (hs : ∀ i x H H', i < n → Pv i H → Y i H x H' → g x (wipe σ vs) H' fun σ2 H2 => wipe σ2 vs = wipe σ vs ∧ tt σ2 H2 fun b H3 =>
      if b = true then tk σ2 H3 fun y H4 => tv σ2 H4 fun z H5 => ∃ kvs k, y = kV k ∧ H5 D = some (.dK kvs) ∧ kvs.length < sizeLine ∧ Pv (i + 1) (upd H5 D (.dK (putK kvs k z))) else Pv (i + 1) H3) (hd : ∀ H, Pv n H → Qd H) :
    ∃ W : Nat → Nat → Hp → Prop, (∃ m, W 0 m (upd H1 D (.dK []))) ∧ ∀ i m H, W i m H →
      (J.stop i H ∧ Qd H) ∨ (J.go i H ∧ ∃ Nx : Hp → Prop, (∀ H', Nx H' → ∃ m', m' < m ∧ W (i + 1) m' H') ∧ ∀ x H', J.yld i H x H' → g x (wipe σ vs) H' fun σ2 H2 => wipe σ2 vs = wipe σ vs ∧ tt σ2 H2 fun b H3 =>
        if b = true then tk σ2 H3 fun y H4 => tv σ2 H4 fun z H5 => ∃ kvs k, y = kV k ∧ H5 D = some (.dK kvs) ∧ kvs.length < sizeLine ∧ Nx (upd H5 D (.dK (putK kvs k z))) else Nx H3) := by
  refine ⟨fun i m H => m = n - i ∧ i ≤ n ∧ Pv i H, ⟨n, by simp, Nat.zero_le _, h0⟩, ?_⟩
  rintro i m H ⟨rfl, hi, p⟩
  have q := hG i H hi p
  by_cases hlt : i < n
  · refine .inr ⟨w.goes i H hlt q, Pv (i + 1), fun H' p' => ⟨n - (i + 1), by omega, rfl, hlt, p'⟩, fun x H' y => hs i x H H' hlt p (w.yields i H x H' hlt q y)⟩
  · have e : i = n := by omega
    subst e
    exact .inl ⟨w.stops H q, hd H p⟩
/-- the inner walk of a comprehension with two -/
theorem lc_in {J1 : It} {n : Nat} {G : Hp → Prop} {Y : Nat → Hp → V → Hp → Prop} (w : Walk J1 n G Y) {g1 : TG} {tt1 : TT} {te : TE} {vs1 : List Nat} {σ2 : L2.St} {H4 : Hp} {D : Addr} {Nx : Hp → Prop} (Pv : Nat → Hp → Prop) (h0 : Pv 0 H4) (hG : ∀ i H, i ≤ n → Pv i H → G H)
    (hs : ∀ i x H H', i < n → Pv i H → Y i H x H' → g1 x (wipe σ2 vs1) H' fun σ3 H5 => wipe σ3 vs1 = wipe σ2 vs1 ∧ tt1 σ3 H5 fun b H6 =>
      if b = true then te σ3 H6 fun y H7 => ∃ acc, H7 D = some (.lst acc) ∧ acc.length < sizeLine ∧ Pv (i + 1) (upd H7 D (.lst (acc ++ [y]))) else Pv (i + 1) H6) (hd : ∀ H, Pv n H → Nx H) :
    ∃ W1 : Nat → Nat → Hp → Prop, (∃ m, W1 0 m H4) ∧ ∀ j k H, W1 j k H →
      (J1.stop j H ∧ Nx H) ∨ (J1.go j H ∧ ∃ Nx1 : Hp → Prop, (∀ H', Nx1 H' → ∃ k', k' < k ∧ W1 (j + 1) k' H') ∧ ∀ x H', J1.yld j H x H' → g1 x (wipe σ2 vs1) H' fun σ3 H5 => wipe σ3 vs1 = wipe σ2 vs1 ∧ tt1 σ3 H5 fun b H6 =>
        if b = true then te σ3 H6 fun y H7 => ∃ acc, H7 D = some (.lst acc) ∧ acc.length < sizeLine ∧ Nx1 (upd H7 D (.lst (acc ++ [y]))) else Nx1 H6) := by
  refine ⟨fun i m H => m = n - i ∧ i ≤ n ∧ Pv i H, ⟨n, by simp, Nat.zero_le _, h0⟩, ?_⟩
  rintro i m H ⟨rfl, hi, p⟩
  have q := hG i H hi p
  by_cases hlt : i < n
  · refine .inr ⟨w.goes i H hlt q, Pv (i + 1), fun H' p' => ⟨n - (i + 1), by omega, rfl, hlt, p'⟩, fun x H' y => hs i x H H' hlt p (w.yields i H x H' hlt q y)⟩
  · have e : i = n := by omega
    subst e
    exact .inl ⟨w.stops H q, hd H p⟩
/-- the outer walk -/
theorem lc_out {J : It} {n : Nat} {G : Hp → Prop} {Y : Nat → Hp → V → Hp → Prop} (w : Walk J n G Y) {g g1 : TG} {tt tt1 : TT} {wi1 : TI} {te : TE} {vs vs1 : List Nat} {σ : L2.St} {H1 : Hp} {D : Addr} {Qd : Hp → Prop} (Pv : Nat → Hp → Prop) (h0 : Pv 0 (upd H1 D (.lst []))) (hG : ∀ i H, i ≤ n → Pv i H → G H)
    (hs : ∀ i x H H', i < n → Pv i H → Y i H x H' → g x (wipe σ vs) H' fun σ2 H2 => wipe σ2 vs = wipe σ vs ∧ tt σ2 H2 fun b H3 =>
      if b = true then wi1 σ2 H3 fun J1 H4 => ∃ W1 : Nat → Nat → Hp → Prop, (∃ m, W1 0 m H4) ∧ ∀ j k H, W1 j k H →
        (J1.stop j H ∧ Pv (i + 1) H) ∨ (J1.go j H ∧ ∃ Nx1 : Hp → Prop, (∀ H', Nx1 H' → ∃ k', k' < k ∧ W1 (j + 1) k' H') ∧ ∀ x H', J1.yld j H x H' → g1 x (wipe σ2 vs1) H' fun σ3 H5 => wipe σ3 vs1 = wipe σ2 vs1 ∧ tt1 σ3 H5 fun b H6 =>
          if b = true then te σ3 H6 fun y H7 => ∃ acc, H7 D = some (.lst acc) ∧ acc.length < sizeLine ∧ Nx1 (upd H7 D (.lst (acc ++ [y]))) else Nx1 H6)
      else Pv (i + 1) H3) (hd : ∀ H, Pv n H → Qd H) :
    ∃ W : Nat → Nat → Hp → Prop, (∃ m, W 0 m (upd H1 D (.lst []))) ∧ ∀ i m H, W i m H →
      (J.stop i H ∧ Qd H) ∨ (J.go i H ∧ ∃ Nx : Hp → Prop, (∀ H', Nx H' → ∃ m', m' < m ∧ W (i + 1) m' H') ∧ ∀ x H', J.yld i H x H' → g x (wipe σ vs) H' fun σ2 H2 => wipe σ2 vs = wipe σ vs ∧ tt σ2 H2 fun b H3 =>
        if b = true then wi1 σ2 H3 fun J1 H4 => ∃ W1 : Nat → Nat → Hp → Prop, (∃ m, W1 0 m H4) ∧ ∀ j k H, W1 j k H →
          (J1.stop j H ∧ Nx H) ∨ (J1.go j H ∧ ∃ Nx1 : Hp → Prop, (∀ H', Nx1 H' → ∃ k', k' < k ∧ W1 (j + 1) k' H') ∧ ∀ x H', J1.yld j H x H' → g1 x (wipe σ2 vs1) H' fun σ3 H5 => wipe σ3 vs1 = wipe σ2 vs1 ∧ tt1 σ3 H5 fun b H6 =>
            if b = true then te σ3 H6 fun y H7 => ∃ acc, H7 D = some (.lst acc) ∧ acc.length < sizeLine ∧ Nx1 (upd H7 D (.lst (acc ++ [y]))) else Nx1 H6)
        else Nx H3) := by
  refine ⟨fun i m H => m = n - i ∧ i ≤ n ∧ Pv i H, ⟨n, by simp, Nat.zero_le _, h0⟩, ?_⟩
  rintro i m H ⟨rfl, hi, p⟩
  have q := hG i H hi p
  by_cases hlt : i < n
  · refine .inr ⟨w.goes i H hlt q, Pv (i + 1), fun H' p' => ⟨n - (i + 1), by omega, rfl, hlt, p'⟩, fun x H' y => hs i x H H' hlt p (w.yields i H x H' hlt q y)⟩
  · have e : i = n := by omega
    subst e
    exact .inl ⟨w.stops H q, hd H p⟩
end Xo
/-! ### pairs of texts sorted -/
namespace Xp
open PySem PyProof.Rows Srt SrtO
def ltS (x y : Str) : Bool := decide (x.cps.toList < y.cps.toList)
theorem ltS_tri {x y : Str} (h1 : ltS x y = false) (h2 : ltS y x = false) : x = y := by
  have e : x.cps.toList = y.cps.toList := List.le_antisymm (List.not_lt.mp (of_decide_eq_false h2)) (List.not_lt.mp (of_decide_eq_false h1))
  cases x with
  | mk a =>
    cases y with
    | mk b =>
      have e' : a.toList = b.toList := e
      rw [Array.toList_inj.mp e']
theorem ltS_irr (x : Str) : ltS x x = false := decide_eq_false (List.lt_irrefl _)
theorem ltS_asym {x y : Str} (h : ltS x y = true) : ltS y x = false := decide_eq_false fun z => List.lt_irrefl _ (List.lt_trans (of_decide_eq_true h) z)
theorem ltS_trans {x y z : Str} (h1 : ltS x y = true) (h2 : ltS y z = true) : ltS x z = true := decide_eq_true (List.lt_trans (of_decide_eq_true h1) (of_decide_eq_true h2))
theorem ltS_ntr {x y z : Str} (h1 : ltS y x = false) (h2 : ltS z y = false) : ltS z x = false := by
  cases h : ltS z x with
  | false => rfl
  | true =>
    cases h3 : ltS x y with
    | true =>
      rw [ltS_trans h h3] at h2
      cases h2
    | false =>
      have := ltS_tri h1 h3
      subst this
      rw [h] at h2
      cases h2
/-- by the first, then by the second -/
def lexS (p q : Str × Str) : Bool := if p.1 = q.1 then ltS p.2 q.2 else ltS p.1 q.1
theorem lexS_swo {α : Type} (k : α → Str × Str) : Swo fun v u => lexS (k v) (k u) := by
  refine ⟨fun x y h => ?_, fun x y z h1 h2 => ?_⟩
  · skip
    unfold lexS at h ⊢
    by_cases e : (k x).1 = (k y).1
    · rw [if_pos e] at h
      rw [if_pos e.symm]
      exact ltS_asym h
    · rw [if_neg e] at h
      rw [if_neg fun z => e z.symm]
      exact ltS_asym h
  · skip
    unfold lexS at h1 h2 ⊢
    by_cases e1 : (k y).1 = (k x).1
    · by_cases e2 : (k z).1 = (k y).1
      · rw [if_pos e1] at h1
        rw [if_pos e2] at h2
        rw [if_pos (e2.trans e1)]
        exact ltS_ntr h1 h2
      · rw [if_neg e2] at h2
        rw [if_neg fun w => e2 (w.trans e1.symm), ← e1]
        exact h2
    · rw [if_neg e1] at h1
      by_cases e2 : (k z).1 = (k y).1
      · rw [if_neg fun w => e1 (e2.symm.trans w), e2]
        exact h1
      · rw [if_neg e2] at h2
        have h3 := ltS_ntr h1 h2
        by_cases e3 : (k z).1 = (k x).1
        · rw [e3] at h2
          exact absurd (ltS_tri h1 h2) e1
        · rw [if_neg e3]
          exact h3
def IsPr (h : Heap) (v : Value) (x y : Str) : Prop := ∃ a o t u n, v = .ref a ∧ h.get? a = some o ∧ o.cls = .type "tuple" ∧ o.data = .seq #[.str x t, .str y u] n
theorem IsPr.keeps {h h' : Heap} {v : Value} {x y : Str} (p : IsPr h v x y) (k : ∀ b o, h.get? b = some o → o.cls = .type "tuple" → h'.get? b = some o) : IsPr h' v x y := by
  obtain ⟨a, o, t, u, n, e, ho, hc, hd⟩ := p
  exact ⟨a, o, t, u, n, e, k a o ho hc, hc, hd⟩
theorem pr_firsts {h : Heap} : ∀ {vs : List Value}, (∀ v ∈ vs, ∃ x y, IsPr h v x y) → ∃ fs : List Value, PySem.W.KatTups h vs fs ∧ fs.length = vs.length ∧ ∀ f ∈ fs, ∃ x t, f = Value.str x t
  | [], _ => ⟨[], PySem.W.KatTups.nil, rfl, fun f hf => by simp at hf⟩
  | v :: vs, x => by
    obtain ⟨fs, k, hl, hi⟩ := pr_firsts (vs := vs) fun u hu => x u (List.mem_cons_of_mem _ hu)
    obtain ⟨y, z, a, o, t, u, n, rfl, ho, hc, hd⟩ := x v List.mem_cons_self
    refine ⟨.str y t :: fs, PySem.W.KatTups.cons ho hc hd rfl k, by rw [List.length_cons, List.length_cons, hl], fun f hf => ?_⟩
    rcases List.mem_cons.mp hf with rfl | hf
    · exact ⟨y, t, rfl⟩
    · exact hi f hf
section
variable {prog : Program} {w : World} {A : Around} {E : Value → Shared → Prop} {s : Shared}
theorem pr_cmp {vs : List Value} {k : Value → Str × Str} (hp : ∀ v ∈ vs, IsPr s.heap v (k v).1 (k v).2) : Cmp prog w A s (tuples' true) (fun p => p.1 ∈ vs) (lt2 fun v u => lexS (k v) (k u)) := by
  intro p q hm hm'
  have h1 := hp _ hm
  have h2 := hp _ hm'
  show wpAny (model prog w) A (keyLt' (tuples' true) p.1 q.1) (fun r s' => s' = s ∧ r = lexS (k p.1) (k q.1)) (fun _ _ => False) s
  unfold lexS
  generalize (k p.1).1 = x at h1 ⊢
  generalize (k p.1).2 = y at h1 ⊢
  generalize (k q.1).1 = x' at h2 ⊢
  generalize (k q.1).2 = y' at h2 ⊢
  obtain ⟨a, o, t, u, n, e, ho, hc, hd⟩ := h1
  obtain ⟨a', o', t', u', n', e', ho', hc', hd'⟩ := h2
  rw [e, e']
  refine PySem.W.kat_lt ho hd ho' hd' ?_
  show PySem.W.KatLex prog w A true (decide (2 < 2)) _ [(.str x t, .str x' t'), (.str y u, .str y' u')] 0 s
  refine PySem.W.kat_cons (SeqAt.EqAt.str_str x t x' t' prog w _ _ ?_)
  refine PySem.W.kat_go (fun e1 => ?_) (fun e1 => ?_)
  · have ex : x = x' := by simpa using e1
    refine PySem.W.kat_yes (PySem.W.kat_cons (SeqAt.EqAt.str_str y u y' u' prog w _ _ ?_))
    refine PySem.W.kat_go (fun e2 => ?_) (fun e2 => ?_)
    · have ey : y = y' := by simpa using e2
      have e3 : (if x = x' then ltS y y' else ltS x x') = false := by
        rw [if_pos ex, ey]
        exact ltS_irr _
      exact PySem.W.kat_yes (PySem.W.kat_nil ⟨rfl, e3.symm⟩)
    · have e3 : (if x = x' then ltS y y' else ltS x x') = ltS y y' := if_pos ex
      refine PySem.W.kat_no (PySem.W.kat_one _ _ (PyProof.Rows.lt_str ?_))
      exact (show s = s ∧ decide (y.cps.toList < y'.cps.toList) = (if x = x' then ltS y y' else ltS x x') from ⟨rfl, e3.symm⟩)
  · have ex : ¬ x = x' := by simpa using e1
    have e3 : (if x = x' then ltS y y' else ltS x x') = ltS x x' := if_neg ex
    exact PySem.W.kat_no (oneLt_str ⟨rfl, e3.symm⟩)
theorem pr_sortable {a : Addr} {vs : List Value} {k : Value → Str × Str} (h0 : 0 < vs.length) (hp : ∀ v ∈ vs, IsPr s.heap v (k v).1 (k v).2) (ha : ∀ o, s.heap.get? a = some o → o.cls ≠ .type "tuple") : SortableO prog w A s a vs fun v u => lexS (k v) (k u) := by
  intro h' keep
  have hp' : ∀ v ∈ vs, IsPr h' v (k v).1 (k v).2 := fun v hm => (hp v hm).keeps fun b o e c => keep b o (fun z => by subst z; exact ha o e c) e
  obtain ⟨fs, h1, h2, h3⟩ := pr_firsts fun v hm => ⟨_, _, hp' v hm⟩
  refine ⟨tuples' true, fun Q E hq => ?_, pr_cmp hp'⟩
  refine PySem.W.kat_kind (T := .type "str") h1 (by omega) (fun f hm => ?_) (by rfl) ?_
  · obtain ⟨x, t, rfl⟩ := h3 f hm
    exact PySem.W.Looks.now
  · have e : (Value.type "str" != Value.type "tuple") = true := by first | decide +kernel | rfl | decide
    rw [e]
    exact hq
theorem sorted_prs {l : Addr} {vs : List Value} {k : Value → Str × Str} {Q : Value → Shared → Prop} (hl : s.heap.IsList l vs.toArray) (hz : vs.length ≤ sizeLine) (hp : ∀ v ∈ vs, IsPr s.heap v (k v).1 (k v).2)
    (h : ∀ (h' : Heap) (d : Addr) (out : List Value), Srtd (fun v u => lexS (k v) (k u)) out → Stb (fun v u => lexS (k v) (k u)) out vs → (∀ b o, s.heap.get? b = some o → h'.get? b = some o) → s.heap.objs.size ≤ d → (∃ n, h'.get? d = some (seqObj "list" out.toArray n)) → Q (.ref d) { s with heap := h' }) :
    wpAny (model prog w) A (call (.builtin "sorted") [.ref l]) Q E s := by
  refine sorted_ord (lexS_swo k) hl hz (fun h2 h₁ a ha kk => ?_) fun out hs hb => ?_
  · refine pr_sortable (s := { s with heap := h₁ }) (by omega) (fun v hm => (hp v hm).keeps fun b o e _ => (kk b o e).2) fun o e => ?_
    have e' : some o = some (seqObj "list" vs.toArray 0) := e.symm.trans ha
    cases e'
    intro c
    exact absurd (Value.type.inj c) (by decide)
  · exact h _ _ out hs hb (fun b o e => sortedAll_old e) (Nat.le_succ _) (sortedAll_at s.heap vs out.toArray)
end
end Xp
namespace Xp
open PySem PySem.Spec PyProof.Rows L2 Gy Xt
/-- the pair of texts at a place -/
def prOf (H : Hp) : V → Str × Str
  | .ref t => match H t with
    | some (.frz _ (.tup [.str a, .str b])) => (a, b)
    | _ => ("", "")
  | _ => ("", "")
theorem prOf_of {H : Hp} {t : Addr} {a b : Str} (h : Tz H t [.str a, .str b]) : prOf H (.ref t) = (a, b) := by
  obtain ⟨o, e, _⟩ := h
  simp only [prOf, e]
/-- v is the pair p -/
def Pr (H : Hp) (v : V) (p : Str × Str) : Prop := ∃ t, v = .ref t ∧ Tz H t [.str p.1, .str p.2]
theorem Pr.of {H : Hp} {v : V} {p : Str × Str} (h : Pr H v p) : prOf H v = p := by
  obtain ⟨t, rfl, z⟩ := h
  exact prOf_of z
theorem Pr.same {H H' : Hp} {v : V} {p : Str × Str} (h : Pr H v p) (s : Same H H') : Pr H' v p := by
  obtain ⟨t, e, z⟩ := h
  exact ⟨t, e, z.same s⟩
inductive Prs (H : Hp) : List V → List (Str × Str) → Prop
  | nil : Prs H [] []
  | cons {v : V} {p : Str × Str} {vs : List V} {ps : List (Str × Str)} (h : Pr H v p) (t : Prs H vs ps) : Prs H (v :: vs) (p :: ps)
theorem Prs.same {H H' : Hp} {vs : List V} {ps : List (Str × Str)} (h : Prs H vs ps) (s : Same H H') : Prs H' vs ps := by
  induction h with
  | nil => exact .nil
  | cons h t ih => exact .cons (h.same s) ih
theorem Prs.map {H : Hp} {vs : List V} {ps : List (Str × Str)} (h : Prs H vs ps) : ps = vs.map (prOf H) := by
  induction h with
  | nil => rfl
  | cons h t ih => rw [List.map_cons, h.of, ← ih]
theorem Prs.mem {H : Hp} {vs : List V} {ps : List (Str × Str)} (h : Prs H vs ps) : ∀ v ∈ vs, Pr H v (prOf H v) := by
  induction h with
  | nil => exact fun v z => nomatch z
  | @cons v p vs ps h t ih =>
    intro x hx
    rcases List.mem_cons.mp hx with rfl | hx
    · rw [h.of]
      exact h
    · exact ih x hx
theorem Prs.of {H : Hp} : ∀ {vs : List V}, (∀ v ∈ vs, Pr H v (prOf H v)) → Prs H vs (vs.map (prOf H))
  | [], _ => .nil
  | v :: vs, h => .cons (h v List.mem_cons_self) (Prs.of fun x hx => h x (List.mem_cons_of_mem _ hx))
theorem Prs.length {H : Hp} {vs : List V} {ps : List (Str × Str)} (h : Prs H vs ps) : vs.length = ps.length := by
  rw [h.map, List.length_map]
theorem Prs.snoc {H : Hp} {vs : List V} {ps : List (Str × Str)} {v : V} {p : Str × Str} (h : Prs H vs ps) (g : Pr H v p) : Prs H (vs ++ [v]) (ps ++ [p]) := by
  induction h with
  | nil => exact .cons g .nil
  | cons h t ih => exact .cons h ih
theorem Prs.get {H : Hp} {vs : List V} {ps : List (Str × Str)} (h : Prs H vs ps) {i : Nat} {v : V} (e : vs[i]? = some v) : ∃ p, ps[i]? = some p ∧ Pr H v p := by
  induction h generalizing i with
  | nil => simp at e
  | @cons w p vs ps h t ih =>
    cases i with
    | zero =>
      simp only [List.getElem?_cons_zero, Option.some.injEq] at e
      subst e
      exact ⟨p, rfl, h⟩
    | succ i =>
      simp only [List.getElem?_cons_succ] at e
      exact ih e
def prD (p : Str × Str) : PyData := .tuple [.str p.1, .str p.2]
theorem Prs.dns {K : PySem.W.Frag} {H : Hp} {vs : List V} {ps : List (Str × Str)} (h : Prs H vs ps) : Dns K H vs (ps.map prD) := by
  induction h with
  | nil => exact .nil
  | cons h t ih =>
    obtain ⟨t, rfl, z⟩ := h
    exact .cons (.tup z (.cons (.str _) (.cons (.str _) .nil))) ih
def leQ (p q : Str × Str) : Prop := lexS q p = false
/-- sorted(xs), xs a list of pairs of texts -/
def rSortQ (K : PySem.W.Frag) : List V → Hp → VK → Prop := fun vs H Q => ∃ (a : Addr) (xs : List V) (ps : List (Str × Str)), vs = [.ref a] ∧ SqL K H a xs ∧ Prs H xs ps ∧
  ∀ (ys : List V) (qs : List (Str × Str)) (p : Addr), qs.Perm ps → qs.Pairwise leQ → Prs H ys qs → H p = none → Q (.ref p) (upd H p (.lst ys))
section
variable {X : Cx}
theorem cr_sortQ : CallR X (.builtin "sorted") (rSortQ X.K) := by
  intro pins s σ H vs us Q I r h
  obtain ⟨a, xs, ps, rfl, hs, hp, q⟩ := h
  obtain ⟨its, rv, hl, hz⟩ := I.list hs
  obtain ⟨u, rfl, ru⟩ := vals1 r
  obtain rfl : u = Value.ref a := ru
  have hx := hp.mem
  obtain ⟨e1, e2⟩ := refs_back rv fun x m => by
    obtain ⟨t, e, _⟩ := hx x m
    exact ⟨t, e⟩
  refine sorted_prs (k := fun u => prOf H (backV u)) hl.isList (by rw [← rv.length]; exact hz) (fun v hv => ?_) fun h' d out h1 h2 kp hd hn => ?_
  · obtain ⟨t, rfl⟩ := e2 v hv
    have hm : V.ref t ∈ xs := by rw [e1]; exact List.mem_map.mpr ⟨_, hv, rfl⟩
    obtain ⟨t', e, z⟩ := hx _ hm
    cases e
    obtain ⟨its2, r2, ⟨o, ho, hc, n, hd⟩, _⟩ := I.tuple z.sq
    obtain ⟨u1, u2, rfl, ri, rj⟩ := vals2 r2
    obtain ⟨t1, rfl⟩ := ri
    obtain ⟨t2, rfl⟩ := rj
    exact ⟨t, o, t1, t2, n, rfl, ho, hc, hd⟩
  · have h3 : ∀ u ∈ out, ∃ a, u = Value.ref a := fun u hu => e2 u (h2.perm.mem_iff.mp hu)
    obtain ⟨n, hn⟩ := hn
    have pm : (out.map backV).Perm xs := by
      rw [e1]
      exact h2.perm.map backV
    have hy : Prs H (out.map backV) ((out.map backV).map (prOf H)) := Prs.of fun v hv => hx v (pm.mem_iff.mp hv)
    have pm2 : ((out.map backV).map (prOf H)).Perm ps := by
      rw [hp.map]
      exact pm.map _
    refine ⟨.ref d, upd H d (.lst (out.map backV)), I.laid (t' := s.toks) kp hd ⟨?_, out, n, vals_back h3, hn⟩, rfl, q _ _ d pm2 ?_ hy (I.hok.fresh hd)⟩
    · rw [pm.length_eq]
      exact hz
    · rw [List.map_map]
      exact List.pairwise_map.mpr h1
end
/-- one sorted arrangement -/
theorem leQ_anti {p q : Str × Str} (h1 : leQ p q) (h2 : leQ q p) : p = q := by
  unfold leQ lexS at h1 h2
  by_cases e : p.1 = q.1
  · rw [if_pos e.symm] at h1
    rw [if_pos e] at h2
    exact Prod.ext e (ltS_tri h2 h1)
  · rw [if_neg fun z => e z.symm] at h1
    rw [if_neg e] at h2
    exact absurd (ltS_tri h2 h1) e
theorem sortQ_one : ∀ {ys zs : List (Str × Str)}, ys.Perm zs → ys.Pairwise leQ → zs.Pairwise leQ → ys = zs
  | [], zs, p, _, _ => (List.Perm.eq_nil p.symm).symm
  | y :: ys, [], p, _, _ => absurd (List.Perm.eq_nil p) (by simp)
  | y :: ys, z :: zs, p, h1, h2 => by
    have e : y = z := by
      have m1 : y ∈ z :: zs := p.mem_iff.mp List.mem_cons_self
      have m2 : z ∈ y :: ys := p.mem_iff.mpr List.mem_cons_self
      rcases List.mem_cons.mp m1 with e | m1
      · exact e
      · rcases List.mem_cons.mp m2 with e | m2
        · exact e.symm
        · exact leQ_anti ((List.pairwise_cons.mp h1).1 z m2) ((List.pairwise_cons.mp h2).1 y m1)
    subst e
    rw [sortQ_one (List.perm_cons y |>.mp p) (List.pairwise_cons.mp h1).2 (List.pairwise_cons.mp h2).2]
end Xp

/-! t < u of two pairs of texts. -/
namespace Xo
open PySem PySem.Spec PyProof.Rows L2 Gy Xt Xp
theorem lt_strR {A : Around} {s : Shared} (a b : Str) (t u : Tok) : Ob.RcOp .Lt A s (.str a t) (.str b u) (decide (a.cps.toList < b.cps.toList)) := fun _ _ _ _ h => PyProof.Rows.lt_str h
def rLtP (K : PySem.W.Frag) : R2 := fun x y H Q => ∃ (a b : Addr) (p q : Str × Str), x = .ref a ∧ y = .ref b ∧ Tz H a [.str p.1, .str p.2] ∧ Tz H b [.str q.1, .str q.2] ∧ Q (.bl (lexS p q)) H
theorem op_ltP {X : Cx} (hu : X.A.units < cLine) : OpR X (compareOp .Lt) (rLtP X.K) := by
  intro pins s σ H x y v u Q I rx ry h
  obtain ⟨a, b, p, q, rfl, rfl, ha, hb, k⟩ := h
  cases rx
  cases ry
  obtain ⟨its, r1, p1, _⟩ := I.tuple (ha.sq (K := X.K))
  obtain ⟨its2, r2, p2, _⟩ := I.tuple (hb.sq (K := X.K))
  cases r1 with
  | cons e1 r1 =>
  cases r1 with
  | cons e2 r1 =>
  cases r1
  cases r2 with
  | cons f1 r2 =>
  cases r2 with
  | cons f2 r2 =>
  cases r2
  obtain ⟨t1, rfl⟩ := e1
  obtain ⟨t2, rfl⟩ := e2
  obtain ⟨u1, rfl⟩ := f1
  obtain ⟨u2, rfl⟩ := f2
  have R := Ob.RcOp.tuples_lt (A := X.A) (s := s) (e := fun j => [p.1, p.2].getD j "" == [q.1, q.2].getD j "") (r := fun j => decide (([p.1, p.2].getD j "").cps.toList < ([q.1, q.2].getD j "").cps.toList)) p1 p2 hu (fun j h1 h2 => by
    match j, h1 with
    | 0, _ => exact SeqAt.EqAt.str_str _ _ _ _
    | 1, _ => exact SeqAt.EqAt.str_str _ _ _ _) (fun j h1 h2 _ => by
    match j, h1 with
    | 0, _ => exact lt_strR _ _ _ _
    | 1, _ => exact lt_strR _ _ _ _)
  refine R _ _ _ _ ⟨.bl _, H, I, rfl, ?_⟩
  have e : Ob.lexAt (fun j => [p.1, p.2].getD j "" == [q.1, q.2].getD j "") (fun j => decide (([p.1, p.2].getD j "").cps.toList < ([q.1, q.2].getD j "").cps.toList)) (decide ((2 : Nat) < 2)) 0 2 = lexS p q := by
    show (if (p.1 == q.1) = true then (if (p.2 == q.2) = true then decide ((2 : Nat) < 2) else ltS p.2 q.2) else ltS p.1 q.1) = _
    unfold lexS
    by_cases h1 : p.1 = q.1
    · rw [if_pos (beq_iff_eq.mpr h1), if_pos h1]
      by_cases h2 : p.2 = q.2
      · rw [if_pos (beq_iff_eq.mpr h2), h2, ltS_irr]
        rfl
      · rw [if_neg (fun z => h2 (beq_iff_eq.mp z))]
    · rw [if_neg (fun z => h1 (beq_iff_eq.mp z)), if_neg h1]
  rw [← e] at k
  exact k
end Xo

/-! A method's call in a try: what is raised is wished for at the caller's slots. -/
namespace Xo
open PySem PySem.Spec PyProof.Rows L2 Gy Xt
section
variable {X : Cx} {CX : CXT} {k : Nat} {f C : Addr} {fd : FuncData} {ps : List Str} {sp : Sp} {E : L2.St → XK} {m : Str} {pos apos : Pos} {e o : Expr} {es : List Expr} {ta : TE} {t : TA}
def tMethT (C : Addr) (m : Str) (sp : Sp) (E : L2.St → XK) (ta : TE) (t : TA) : TE := fun σ H Q => ta σ H fun x H1 => ∃ a dx fs, x = .ref a ∧ H1 a = some (.ins C dx fs) ∧ fs.lookup m = none ∧ t σ H1 fun vs H2 => sp (x :: vs) H2 Q (E σ)
theorem pe_methT {pl : Sem Bool} (he : PE X o ta) (c : Cls X.K C) (hm : Meth X.K C m f) (F : FnOk X.prog X.w X.K X.mg X.base CX k f fd ps sp) (hr : Room k X.A) (hb : Binds X.K fd ps []) (hx : ∀ σ, PassesAt CX X σ (E σ)) (ha : PA X (e :: es) t)
    (h1 : starEach (e :: es) X.env = (false, eval e X.env) :: starEach es X.env := by rfl) (h2 : (backTo pos (starEach es X.env)).any (·.1) = false := by rfl)
    (h3 : eval (.Call (.Attribute o m apos) (e :: es) [] pos) X.env = (do let ov ← eval o X.env; standAt apos.atName; let (f, first) ← holding [ov] (getMethod ov m pl); callWith pos f first (backTo pos (starEach (e :: es) X.env)) (backToKw pos (keywordEach [] X.env))) := by rfl) :
    PE X (.Call (.Attribute o m apos) (e :: es) [] pos) (tMethT C m sp E ta t) := by
  constructor
  intro pins s σ H Q I h
  refine PySem.W.methodCall_KW (pl := pl) (thn (he.run pins s σ H _ I h) fun u s1 w1 => ?_) h3
  obtain ⟨x, H1, I1, rx, a, dx, fs, rfl, ea, l, q⟩ := w1
  obtain rfl : u = .ref a := rx
  refine getmeth_ok I1 ea c hm l (PySem.W.callWith_K (first := [.ref a]) (h₀ := X.base) I.ok.mod.kin hm.kp (thn (ha.run pos pins s1 σ H1 _ I1 q) fun us s2 w2 => ?_) h1 h2)
  obtain ⟨vs, H2, I2, r, q2⟩ := w2
  exact ⟨I2.kIn, run_fnS (us := .ref a :: us) (vs := .ref a :: vs) F hr hb (hx σ) I2 (.cons rfl r) q2⟩
def tMethK (C : Addr) (m : Str) (n : Nat) (sp : Sp) (gV : List V → List V → List V) (E : XK) (ta : TE) (tk : TA) : TE := fun σ H Q => ta σ H fun x H1 => ∃ a dx fs, x = .ref a ∧ H1 a = some (.ins C dx fs) ∧ fs.lookup m = none ∧ tk σ H1 fun zs H2 => zs.length = n ∧ sp (gV [x] zs) H2 Q E
/-- o.m(k = v, ..) -/
theorem pe_methK {pl : Sem Bool} {ks : List Str} {E : XK} {kws : List Keyword} {tk : TA} {g : List Value → List Value → List Value} {gV : List V → List V → List V} (he : PE X o ta) (c : Cls X.K C) (hm : Meth X.K C m f) (F : FnOk X.prog X.w X.K X.mg X.base CX k f fd ps sp) (hr : Room k X.A) (hb : KBn X.K fd ps 1 ks g gV) (hx : Passes CX X E) (hkw : PK X kws tk)
    (h1 : (backToKw pos (keywordEach kws X.env)).all (·.1.isSome) = true := by rfl) (h4 : (backToKw pos (keywordEach kws X.env)).filterMap (·.1) = ks := by rfl) (h2 : ((backTo pos (starEach [] X.env)).any (·.1) || (backToKw pos (keywordEach kws X.env)).any (·.1.isNone)) = false := by rfl)
    (h3 : eval (.Call (.Attribute o m apos) [] kws pos) X.env = (do let ov ← eval o X.env; standAt apos.atName; let (f, first) ← holding [ov] (getMethod ov m pl); callWith pos f first (backTo pos (starEach [] X.env)) (backToKw pos (keywordEach kws X.env))) := by rfl) :
    PE X (.Call (.Attribute o m apos) [] kws pos) (tMethK C m ks.length sp gV E ta tk) := by
  constructor
  intro pins s σ H Q I h
  refine PySem.W.methodCall_KW (pl := pl) (thn (he.run pins s σ H _ I h) fun u s1 w1 => ?_) h3
  obtain ⟨x, H1, I1, rx, a, dx, fs, rfl, ea, l, q⟩ := w1
  obtain rfl : u = .ref a := rx
  refine getmeth_ok I1 ea c hm l (PySem.W.callWith_KW0 (first := [.ref a]) (h₀ := X.base) I.ok.mod.kin hm.kp h1 (thn (hkw.run pos pins s1 σ H1 _ I1 q) fun us s2 w2 => ?_) h2)
  obtain ⟨zs, H2, I2, rz, l2, q2⟩ := w2
  rw [h4]
  exact ⟨I2.kIn, run_fnN (us := [.ref a]) (vs := [.ref a]) F hr hb hx I2 (.cons rfl .nil) rz rfl l2 q2⟩
end
end Xo

/-! An object made in a try: what is raised is wished for at the caller's slots. -/
namespace Xo
open PySem PySem.Spec PyProof.Rows L2 Gy Xt
section
variable {X : Cx} {CX : CXT} {k : Nat} {f C : Addr} {fd : FuncData} {ps : List Str} {sp : Sp} {E : L2.St → XK} {x : Str} {p pos : Pos} {e : Expr} {es : List Expr} {t : TA}
theorem run_makeT {pins : List (Addr × Obj)} {σ : L2.St} {H : Hp} {s : Shared} {Q : VK} {us : List Value} {vs : List V} (M : Mk X.K C f) (F : FnOk X.prog X.w X.K X.mg X.base CX k f fd ps sp) (hr : Room (k + 1) X.A) (hb : Binds X.K fd ps [])
    (hx : PassesAt CX X σ (E σ)) (I : Inv X pins σ H s) (r : Vals vs us)
    (h : ∀ x dx, H x = none → H dx = none → dx ≠ x → sp (.ref x :: vs) (upd (upd H dx (.own x)) x (.ins C dx [])) (fun v H2 => v = .non ∧ Q (.ref x) H2) (E σ)) :
    wpAny (model X.prog X.w) X.A (call (.ref C) us) (EP X pins σ Q) X.xe s := by
  have hq := h (s.heap.objs.size + 1) s.heap.objs.size (I.hok.fresh (Nat.le_succ _)) (I.hok.fresh (Nat.le_refl _)) (Nat.ne_of_lt (Nat.lt_succ_self _))
  have I2 := Inv.made (C := C) I
  have r2 : Vals (V.ref (s.heap.objs.size + 1) :: vs) (Value.ref (s.heap.objs.size + 1) :: us) := .cons rfl r
  have hl : (Value.ref (s.heap.objs.size + 1) :: us ++ []).length = ps.length := by
    have e := r2.length
    rw [F.len _ _ _ _ hq] at e
    rw [List.append_nil]
    exact e.symm
  have b := hb _ (Value.ref (s.heap.objs.size + 1) :: us) I2.kIn hl
  rw [List.append_nil] at b
  refine wpAny_call (make_map (f := f) I.kIn M.makes M.init (beq_iff_eq.mp M.fn) (codeAny_mono (F.run _ X.stack _ _ ⟨Value.ref (s.heap.objs.size + 1) :: us, []⟩ (Value.ref (s.heap.objs.size + 1) :: us) _ _ (E σ) (hr.make C us [])
    (I2.env0.make C us []) b r2 hq) fun r s' hq' => ?_))
  cases r with
  | error e => exact hx pins _ _ e s' I2 hq'
  | ok fl =>
    cases fl with
    | ret u =>
      obtain ⟨v, H', I3, rv, ev, q3⟩ := I2.after hq'
      subst ev
      exact ⟨rv, ⟨V.ref (s.heap.objs.size + 1), H', I3, rfl, q3⟩⟩
    | next => exact False.elim hq'
    | brk => exact False.elim hq'
    | cont => exact False.elim hq'
def tMakeT (C : Addr) (sp : Sp) (E : L2.St → XK) (t : TA) : TE := fun σ H Q => t σ H fun vs H1 => ∀ x dx, H1 x = none → H1 dx = none → dx ≠ x →
  sp (.ref x :: vs) (upd (upd H1 dx (.own x)) x (.ins C dx [])) (fun v H2 => v = .non ∧ Q (.ref x) H2) (E σ)
theorem pe_makeT (M : Mk X.K C f) (F : FnOk X.prog X.w X.K X.mg X.base CX k f fd ps sp) (hr : Room (k + 1) X.A) (hg : Gl X x) (hm : X.mg x = some (.ref C)) (hb : Binds X.K fd ps []) (hx : ∀ σ, PassesAt CX X σ (E σ))
    (ha : PA X (e :: es) t) (hdb : (x == ("__debug__" : Str)) = false := by decide) (he : starEach (e :: es) X.env = (false, eval e X.env) :: starEach es X.env := by rfl) (hpl : (backTo pos (starEach es X.env)).any (·.1) = false := by rfl) :
    PE X (.Call (.Name x p) (e :: es) [] pos) (tMakeT C sp E t) := by
  refine ⟨fun pins s σ H Q I h => ?_⟩
  refine wpAny_Call_Name_kw (ld_glob I hg hm ?_ hdb)
  refine PySem.W.callWith_K (h₀ := X.base) I.ok.mod.kin M.kp (thn (ha.run pos pins s σ H _ I h) fun us s1 ⟨vs, H1, I1, r, q⟩ => ⟨I1.kIn, ?_⟩) he hpl
  exact run_makeT M F hr hb (hx σ) I1 r q
end
end Xo

/-! v == text, for any value of data. -/
namespace Gy
open PySem PySem.Spec PyProof.Rows L2 Xt
theorem dict_no_str (l : Addr) (es : Array DictEntry) (ep : Nat) (dd : Option Addr) (sl : Array (Option Value)) (b : Str) (u : Tok) :
    Meets (Builtin.«dict.__eq__» ⟨[.ref l, .str b u], []⟩) (fun _ R s => s.heap.get? l = some ⟨.type "dict", dd, .dict es ep, sl⟩ ∧ R (.ok (.ret .notImplemented)) s) := by
  refine .of_wp fun prog w A R s h => ?_
  obtain ⟨hp, g, d, tk, os⟩ := s
  obtain ⟨hl, h⟩ := h
  have f1 : isSubtype (.type "str") (.type "dict") = pure false := by rw [isSubtype_type]; kernel_rfl
  wp_walk using wpAny_loadPart' hl, wpAny_load hl
  exact ⟨_, rfl, h⟩
theorem str_no_dict (l : Addr) (es : Array DictEntry) (ep : Nat) (dd : Option Addr) (sl : Array (Option Value)) (b : Str) (u : Tok) :
    Meets (Builtin.«str.__eq__» ⟨[.str b u, .ref l], []⟩) (fun _ R s => s.heap.get? l = some ⟨.type "dict", dd, .dict es ep, sl⟩ ∧ R (.ok (.ret .notImplemented)) s) := by
  refine .of_wp fun prog w A R s h => ?_
  obtain ⟨hp, g, d, tk, os⟩ := s
  obtain ⟨hl, h⟩ := h
  wp_walk using wpAny_loadPart' hl, wpAny_load hl
  exact ⟨_, rfl, h⟩
theorem rc_dict_str {A : Around} {s : Shared} {l : Addr} {o : Obj} {es : Array DictEntry} {ep : Nat} (b : Str) (u : Tok) (ho : s.heap.get? l = some o) (hc : o.cls = .type "dict") (hd : o.data = .dict es ep) (hu : A.units < cLine)
    {prog : Program} {w : World} {E Q : Value → Shared → Prop} (h : Q (.bool false) s) : wpAny (model prog w) A (richCompare .Eq (.ref l) (.str b u)) Q E s := by
  obtain ⟨cls, dd, dat, sl⟩ := o
  dsimp only at hc hd
  subst hc hd
  refine SeqAt.rc_eq_decline_or (k := false) ⟨_, ho, rfl⟩ (typeIs_str s b u) (by decide) F.sub_str_dict F.slot_dict_eq F.slot_str_eq_refl ?_ ?_ ?_ (.inr hu) h
  · exact fun _ q => call_meets F.slot_dict_eq ⟨_, ho, rfl⟩ F.entry_dict_eq (F.args_dict_eq_2 _ _) (dict_no_str l es ep dd sl b u) ⟨ho, q⟩
  · exact fun _ q => call_meets F.slot_str_eq_refl (typeIs_str s b u) F.entry_str_eq (F.args_str_eq_2 _ _) (str_no_dict l es ep dd sl b u) ⟨ho, q⟩
  · exact fun _ q => wpAny_of_eq (rfl : isSame (.ref l) (.str b u) = pure false) q
/-- whether it is this text -/
def isTx (x : Str) : PyData → Bool
  | .str y => decide (V.str y = V.str x)
  | _ => false
def rEqS (K : PySem.W.Frag) : R2 := fun a b H Q => ∃ (d : PyData) (x : Str), b = .str x ∧ Dn K H a d ∧ Q (.bl (isTx x d)) H
theorem op_eqS {X : Cx} (hu : X.A.units < cLine) : OpR X (compareOp .Eq) (rEqS X.K) := by
  intro pins s σ H a b v u Q I rx ry h
  obtain ⟨d, x, rfl, dn, q⟩ := h
  cases dn with
  | non => exact op_eq pins s σ H _ _ v u Q I rx ry ⟨rfl, q⟩
  | bl c => exact op_eq pins s σ H _ _ v u Q I rx ry ⟨rfl, q⟩
  | int i => exact op_eq pins s σ H _ _ v u Q I rx ry ⟨rfl, q⟩
  | str y => exact op_eq pins s σ H _ _ v u Q I rx ry ⟨rfl, q⟩
  | lst h1 _ =>
    cases rx
    obtain ⟨t, rfl⟩ := ry
    obtain ⟨its, _, hl, _⟩ := I.list (SqL.of h1)
    exact SeqAt.RcAt.list_str x t hl.isList hu _ _ _ _ ⟨.bl false, H, I, rfl, q⟩
  | tup h1 _ =>
    cases rx
    obtain ⟨t, rfl⟩ := ry
    obtain ⟨its, _, ht, _⟩ := I.tuple h1.sq
    exact SeqAt.RcAt.tuple_str x t ht hu _ _ _ _ ⟨.bl false, H, I, rfl, q⟩
  | dic h1 =>
    cases rx
    obtain ⟨t, rfl⟩ := ry
    obtain ⟨_, o, es, ep, g1, g2, g3, _, _⟩ := dict_at I h1
    exact rc_dict_str x t g1 g2 g3 hu ⟨.bl false, H, I, rfl, q⟩
end Gy

/-! v not in a tuple of texts, for any value of data. -/
namespace Gy
open PySem PySem.Spec PyProof.Rows L2 Xt
theorem rc_str_dict {A : Around} {s : Shared} {l : Addr} {o : Obj} {es : Array DictEntry} {ep : Nat} (b : Str) (u : Tok) (ho : s.heap.get? l = some o) (hc : o.cls = .type "dict") (hd : o.data = .dict es ep) (hu : A.units < cLine)
    {prog : Program} {w : World} {E Q : Value → Shared → Prop} (h : Q (.bool false) s) : wpAny (model prog w) A (richCompare .Eq (.str b u) (.ref l)) Q E s := by
  obtain ⟨cls, dd, dat, sl⟩ := o
  dsimp only at hc hd
  subst hc hd
  refine SeqAt.rc_eq_decline_or (k := false) (typeIs_str s b u) ⟨_, ho, rfl⟩ (by decide) F.sub_dict_str F.slot_str_eq F.slot_dict_eq_refl ?_ ?_ ?_ (.inr hu) h
  · exact fun _ q => call_meets F.slot_str_eq (typeIs_str s b u) F.entry_str_eq (F.args_str_eq_2 _ _) (str_no_dict l es ep dd sl b u) ⟨ho, q⟩
  · exact fun _ q => call_meets F.slot_dict_eq_refl ⟨_, ho, rfl⟩ F.entry_dict_eq (F.args_dict_eq_2 _ _) (dict_no_str l es ep dd sl b u) ⟨ho, q⟩
  · exact fun _ q => wpAny_of_eq (rfl : isSame (.str b u) (.ref l) = pure false) q
theorem eq_str_dict {A : Around} {s : Shared} {l : Addr} {o : Obj} {es : Array DictEntry} {ep : Nat} (b : Str) (u : Tok) (ho : s.heap.get? l = some o) (hc : o.cls = .type "dict") (hd : o.data = .dict es ep) (hu : A.units < cLine) : SeqAt.EqAt A s (.str b u) (.ref l) false := fun prog w E Q h => by
  unfold eqBool
  refine wpAny_holding ?_
  refine wpAny_ite_split (fun hab => absurd (eq_of_beq hab) nofun) (fun _ => ?_)
  exact wpAny_bind (rc_str_dict b u ho hc hd hu (wpAny_truthy_bool h))
/-- whether it is one of these texts -/
def memD (xs : List Str) : PyData → Bool
  | .str x => inV (.str x) (xs.map V.str)
  | _ => false
def rNotInT (K : PySem.W.Frag) : R2 := fun a b H Q => ∃ (p : Addr) (d : PyData) (xs : List Str), b = .ref p ∧ SqT K H p (xs.map V.str) ∧ Dn K H a d ∧ Q (.bl (!memD xs d)) H
theorem strs_of : ∀ {xs : List Str} {us : List Value}, Vals (xs.map V.str) us → ∀ u ∈ us, ∃ a t, u = .str a t
  | [], _, .nil => fun u hu => by cases hu
  | x :: xs, _, .cons r t => fun u hu => by
    obtain ⟨tk, rfl⟩ := r
    rcases List.mem_cons.mp hu with rfl | hu
    · exact ⟨_, _, rfl⟩
    · exact strs_of t u hu
theorem flats (xs : List Str) : (xs.map V.str).all flatV = true := by
  induction xs with
  | nil => rfl
  | cons x xs ih => rw [List.map_cons, List.all_cons, ih]; rfl
theorem inV_no {v : V} (h : ∀ x, eqV (.str x) v = false) (xs : List Str) : inV v (xs.map V.str) = false := by
  unfold inV
  rw [List.any_map, List.any_eq_false]
  intro x _
  show ¬ eqV (.str x) v = true
  rw [h]
  exact Bool.false_ne_true
theorem op_notInT {X : Cx} (hu : X.A.units + 64 < cLine) : OpR X (compareOp .NotIn) (rNotInT X.K) := by
  intro pins s σ H a b v u Q I rx ry h
  obtain ⟨p, d, xs, rfl, hs, dn, q⟩ := h
  have hu1 : X.A.in1.units < cLine := by
    have : X.A.in1.units = X.A.units + 1 := rfl
    omega
  have go : (∀ (b : Str) (t : Tok), SeqAt.EqAt X.A.in1 s (.str b t) v false) → (Q (.bl true) H) → wpAny (model X.prog X.w) X.A (compareOp .NotIn v u) (EP X pins σ Q) X.xe s := fun he q => by
    cases ry
    obtain ⟨its, r, pl, hz⟩ := I.tuple hs
    refine SeqAt.notIn_tupleAt (fun _ => false) pl (fun w hw => ?_) ⟨.bl true, H, I, ?_, q⟩
    · obtain ⟨b, t, rfl⟩ := strs_of r w (by simpa using hw)
      exact he b t
    · have : (its.toArray.any fun _ => false) = false := by simp
      rw [this]
      rfl
  have fl : flatV a = true → Q (.bl (!inV a (xs.map V.str))) H → _ := fun fx q => op_notIn_seq pins s σ H a (.ref p) v u Q I rx ry ⟨p, _, rfl, .inr hs, fx, flats xs, q⟩
  cases dn with
  | non => exact fl rfl (by rw [inV_no (fun _ => rfl)]; exact q)
  | bl c => exact fl rfl (by rw [inV_no (fun _ => rfl)]; exact q)
  | int i => exact fl rfl (by rw [inV_no (fun _ => rfl)]; exact q)
  | str y => exact fl rfl q
  | lst h1 _ =>
    cases rx
    obtain ⟨its, _, hl, _⟩ := I.list (SqL.of h1)
    exact go (fun b t => SeqAt.EqAt.str_list b t hl.isList hu1) q
  | tup h1 _ =>
    cases rx
    obtain ⟨its, _, ht, _⟩ := I.tuple h1.sq
    exact go (fun b t => SeqAt.EqAt.str_tuple b t ht hu1) q
  | dic h1 =>
    cases rx
    obtain ⟨_, o, es, ep, g1, g2, g3, _, _⟩ := dict_at I h1
    exact go (fun b t => eq_str_dict b t g1 g2 g3 hu1) q
def rNotInL (K : PySem.W.Frag) : R2 := fun a b H Q => ∃ (p : Addr) (d : PyData) (xs : List Str), b = .ref p ∧ SqL K H p (xs.map V.str) ∧ Dn K H a d ∧ Q (.bl (!memD xs d)) H
/-- whether any value is none of the texts of a list -/
theorem op_notInL {X : Cx} (hu : X.A.units + 64 < cLine) : OpR X (compareOp .NotIn) (rNotInL X.K) := by
  intro pins s σ H a b v u Q I rx ry h
  obtain ⟨p, d, xs, rfl, hs, dn, q⟩ := h
  have hu1 : X.A.in1.units < cLine := by
    have : X.A.in1.units = X.A.units + 1 := rfl
    omega
  have go : (∀ (b : Str) (t : Tok), SeqAt.EqAt X.A.in1 s (.str b t) v false) → (Q (.bl true) H) → wpAny (model X.prog X.w) X.A (compareOp .NotIn v u) (EP X pins σ Q) X.xe s := fun he q => by
    cases ry
    obtain ⟨its, r, pl, hz⟩ := I.list hs
    refine SeqAt.notIn_listAt (fun _ => false) pl.isList (fun w hw => ?_) ⟨.bl true, H, I, ?_, q⟩
    · obtain ⟨b, t, rfl⟩ := strs_of r w (by simpa using hw)
      exact he b t
    · have : (its.toArray.any fun _ => false) = false := by simp
      rw [this]
      rfl
  have fl : flatV a = true → Q (.bl (!inV a (xs.map V.str))) H → _ := fun fx q => op_notIn_seq pins s σ H a (.ref p) v u Q I rx ry ⟨p, _, rfl, .inl hs, fx, flats xs, q⟩
  cases dn with
  | non => exact fl rfl (by rw [inV_no (fun _ => rfl)]; exact q)
  | bl c => exact fl rfl (by rw [inV_no (fun _ => rfl)]; exact q)
  | int i => exact fl rfl (by rw [inV_no (fun _ => rfl)]; exact q)
  | str y => exact fl rfl q
  | lst h1 _ =>
    cases rx
    obtain ⟨its, _, hl, _⟩ := I.list (SqL.of h1)
    exact go (fun b t => SeqAt.EqAt.str_list b t hl.isList hu1) q
  | tup h1 _ =>
    cases rx
    obtain ⟨its, _, ht, _⟩ := I.tuple h1.sq
    exact go (fun b t => SeqAt.EqAt.str_tuple b t ht hu1) q
  | dic h1 =>
    cases rx
    obtain ⟨_, o, es, ep, g1, g2, g3, _, _⟩ := dict_at I h1
    exact go (fun b t => eq_str_dict b t g1 g2 g3 hu1) q
end Gy

/-! Defs and what is known of them in one word; the built-in names that are not taken. -/
namespace My
open PySem PySem.Spec PyProof.Rows L2 Gy Xl Xs Xt
/-- no name of the module's own hides a built-in one -/
structure Bn (mg : Str → Option Value) : Prop where
  len : mg "len" = none
  range : mg "range" = none
  abs : mg "abs" = none
  max : mg "max" = none
  min : mg "min" = none
  divmod : mg "divmod" = none
  isinstance : mg "isinstance" = none
  str : mg "str" = none
  int : mg "int" = none
  bool : mg "bool" = none
  tuple : mg "tuple" = none
  list : mg "list" = none
  set : mg "set" = none
  dict : mg "dict" = none
  all : mg "all" = none
  any : mg "any" = none
  repr : mg "repr" = none
  sorted : mg "sorted" = none
  enumerate : mg "enumerate" = none
  zip : mg "zip" = none
/-- a def of the top, by its name, with its promise -/
structure Fk (P : Program) (w : World) (K : PySem.W.Frag) (mg : Str → Option Value) (base : Heap) (CX : CXT) (k : Nat) (nm : Str) (ps : List Str) (sp : Sp) : Prop where
  ex : ∃ (f : Addr) (fd : FuncData), mg nm = some (.ref f) ∧ PySem.W.keepIn K (.ref f) = true ∧ Binds K fd ps [] ∧ FnOk P w K mg base CX k f fd ps sp
/-- the same where no repr is under way -/
structure Fg (P : Program) (w : World) (K : PySem.W.Frag) (mg : Str → Option Value) (base : Heap) (CX : CXT) (k : Nat) (nm : Str) (ps : List Str) (sp : Sp) : Prop where
  ex : ∃ (f : Addr) (fd : FuncData), mg nm = some (.ref f) ∧ PySem.W.keepIn K (.ref f) = true ∧ Binds K fd ps [] ∧ FnG P w K mg base CX k f fd ps sp
section
variable {P : Program} {w : World} {K : PySem.W.Frag} {mg : Str → Option Value} {base : Heap} {CX : CXT} {k : Nat} {nm : Str} {ps : List Str} {sp : Sp}
theorem Fk.imp {sp' : Sp} (F : Fk P w K mg base CX k nm ps sp) (h : ∀ vs H Q E, sp' vs H Q E → sp vs H Q E) : Fk P w K mg base CX k nm ps sp' := by
  obtain ⟨f, fd, a, b, c, d⟩ := F.ex
  exact ⟨f, fd, a, b, c, d.imp h⟩
theorem Fk.g (F : Fk P w K mg base CX k nm ps sp) : Fg P w K mg base CX k nm ps sp := by
  obtain ⟨f, fd, a, b, c, d⟩ := F.ex
  exact ⟨f, fd, a, b, c, .of d⟩
/-- what is raised is never raised -/
theorem passN {X : Cx} : Passes (L2.CX X.prog X.w) X (fun _ _ _ => False) := by
  rintro pins σ H s e s' I ⟨a, B, H', cls, d, _, _, _, _, _, _, _, f⟩
  exact f.elim
end
section
variable {X : Cx} {CX : CXT} {k : Nat} {ps : List Str} {sp : Sp} {E : XK} {x : Str} {p pos : Pos} {e : Expr} {es : List Expr} {t : TA}
theorem pe_callF (F : Fk X.prog X.w X.K X.mg X.base CX k x ps sp) (hr : Room k X.A) (hg : Gl X x) (hx : Passes CX X E) (ha : PA X (e :: es) t)
    (hdb : (x == ("__debug__" : Str)) = false := by decide) (he : starEach (e :: es) X.env = (false, eval e X.env) :: starEach es X.env := by rfl)
    (hpl : (backTo pos (starEach es X.env)).any (·.1) = false := by rfl) : PE X (.Call (.Name x p) (e :: es) [] pos) (tCall sp [] E t) := by
  obtain ⟨f, fd, m, kp, b, G⟩ := F.ex
  exact pe_call G hr hg m kp b .nil hx ha hdb he hpl
theorem pe_callFg (F : Fg X.prog X.w X.K X.mg X.base CX k x ps sp) (gd : X.A.guards = some []) (hr : Room k X.A) (hg : Gl X x) (hx : Passes CX X E) (ha : PA X (e :: es) t)
    (hdb : (x == ("__debug__" : Str)) = false := by decide) (he : starEach (e :: es) X.env = (false, eval e X.env) :: starEach es X.env := by rfl)
    (hpl : (backTo pos (starEach es X.env)).any (·.1) = false := by rfl) : PE X (.Call (.Name x p) (e :: es) [] pos) (tG sp E t) := by
  obtain ⟨f, fd, m, kp, b, G⟩ := F.ex
  exact pe_callG G gd hr hg m kp b hx ha hdb he hpl
end
/-! ### heaps -/
theorem same_upd {H : Hp} {p : Addr} {o : HO} (h : H p = none) : Same H (upd H p o) := fun b x e => by
  rw [upd_ne (ne_of_none e h)]
  exact e
/-- a new object that is written once more: what stood before stands -/
theorem same_upd2 {H0 H : Hp} {p : Addr} {o : HO} (s : Same H0 H) (h : H0 p = none) : Same H0 (upd H p o) := fun b x e => by
  rw [upd_ne (ne_of_none e h)]
  exact s b x e
/-- all but r stands -/
def But (r : Addr) (H H' : Hp) : Prop := ∀ b o, b ≠ r → H b = some o → H' b = some o
theorem But.refl (r : Addr) (H : Hp) : But r H H := fun _ _ _ h => h
theorem But.trans {r : Addr} {H H1 H2 : Hp} (a : But r H H1) (b : But r H1 H2) : But r H H2 := fun c o n h => b c o n (a c o n h)
theorem But.of {r : Addr} {H H' : Hp} (s : Same H H') : But r H H' := fun c o _ h => s c o h
theorem But.upd {r L : Addr} {H H' : Hp} {o : HO} (h : But r H H') (n : H L = none) : But r H (L2.upd H' L o) := fun c u nc e => by
  rw [upd_ne (ne_of_none e n)]
  exact h c u nc e
theorem small200 {n : Nat} (h : n ≤ 10000) : n < sizeLine := Nat.lt_of_le_of_lt h (by decide)
theorem le200 {n : Nat} (h : n ≤ 10000) : n ≤ sizeLine := Nat.le_of_lt (small200 h)
/-- an item of a list of texts, by a number below its length -/
theorem at_in {α : Type} {xs : List α} {d : Int} (h0 : 0 ≤ d) (h1 : d < (xs.length : Int)) : ∃ v, atI xs d = some v ∧ v ∈ xs := by
  obtain ⟨j, rfl⟩ := Int.eq_ofNat_of_zero_le h0
  have hj : j < xs.length := by omega
  exact ⟨xs[j], atI_nat (List.getElem?_eq_getElem hj), List.getElem_mem hj⟩
theorem fun_g0 {P : Program} {w : World} {K : PySem.W.Frag} {mg : Str → Option Value} {base : Heap} {k : Nat} {f : Addr} {fd : FuncData} {ps N : List Str} {sp : Sp} {x qual : Str} {st : Stmt} (F : Fun K x qual st f fd) (S : FnScope N ps (defScope st)) (ln : ∀ {vs H Q E}, sp vs H Q E → vs.length = ps.length)
    (bd : ∀ (cdv : Value) (A : Around) (outer : List Env) (s : Shared) (H : Hp) (vs : List V) (Q : VK) (E : XK), A.guards = some [] →
      Room k (A.deeper (envOfC qual (defScope st) s.heap.objs.size f cdv)) → sp vs H Q E →
      ∃ t, PSs (cxOf CX0 P w K mg base N qual (defScope st) f cdv A outer s H E).nox (defBody st) t ∧
        t { nx := fun _ H' => Q .non H', rt := Q } (start N vs) H) : FnG P w K mg base CX0 (k + 1) f fd ps sp := by
  refine fun_g F S ln fun cdv A outer s H vs Q E g hr h => ?_
  obtain ⟨t, ht, hq⟩ := bd cdv A outer s H vs Q E g hr h
  exact ⟨t, ht.nox, hq⟩
theorem Room.units70 {k : Nat} {A : Around} (r : Room k A) : A.units + 70 < cLine := by
  have := r.un
  omega
theorem all_true {n : Nat} : ((List.replicate n true).all id) = true := by
  induction n with
  | zero => rfl
  | succ n ih => rw [List.replicate_succ, List.all_cons, ih]; rfl
end My

namespace My
open PySem PySem.Spec PyProof.Rows L2
def top (i : Nat) : Stmt := PySem.Challenge.pw_relinktree_k92_tree_texts_spoilt.main.body.getD i (.Pass ⟨0, 0, 0, 0⟩)
abbrev s_wall : Stmt := top 0
theorem sc_wall : FnScope ["k"] ["k"] (defScope s_wall) := ⟨rfl, rfl, rfl, by decide +kernel, rfl, by decide +kernel, by decide +kernel⟩
abbrev s_is_host_name : Stmt := top 10
theorem sc_is_host_name : FnScope ["value"] ["value"] (defScope s_is_host_name) := ⟨rfl, rfl, rfl, by decide +kernel, rfl, by decide +kernel, by decide +kernel⟩
abbrev s_is_text_of : Stmt := top 11
theorem sc_is_text_of : FnScope ["value", "characters", "longest", "character"] ["value", "characters", "longest"] (defScope s_is_text_of) := ⟨rfl, rfl, rfl, by decide +kernel, rfl, by decide +kernel, by decide +kernel⟩
abbrev s_unlinked_hosts : Stmt := top 14
theorem sc_unlinked_hosts : FnScope ["hosts", "linked", "host"] ["hosts"] (defScope s_unlinked_hosts) := ⟨rfl, rfl, rfl, by decide +kernel, rfl, by decide +kernel, by decide +kernel⟩
abbrev s_join_all : Stmt := top 15
theorem sc_join_all : FnScope ["linked", "links", "link"] ["linked", "links"] (defScope s_join_all) := ⟨rfl, rfl, rfl, by decide +kernel, rfl, by decide +kernel, by decide +kernel⟩
abbrev s_join_ends : Stmt := top 16
theorem sc_join_ends : FnScope ["linked", "link", "one", "other"] ["linked", "link"] (defScope s_join_ends) := ⟨rfl, rfl, rfl, by decide +kernel, rfl, by decide +kernel, by decide +kernel⟩
abbrev s_check_connected : Stmt := top 17
theorem sc_check_connected : FnScope ["linked", "ascending", "reached", "host"] ["linked"] (defScope s_check_connected) := ⟨rfl, rfl, rfl, by decide +kernel, rfl, by decide +kernel, by decide +kernel⟩
abbrev s_is_host : Stmt := top 18
theorem sc_is_host : FnScope ["linked", "value"] ["linked", "value"] (defScope s_is_host) := ⟨rfl, rfl, rfl, by decide +kernel, rfl, by decide +kernel, by decide +kernel⟩
abbrev s_check_host : Stmt := top 19
theorem sc_check_host : FnScope ["linked", "value"] ["linked", "value"] (defScope s_check_host) := ⟨rfl, rfl, rfl, by decide +kernel, rfl, by decide +kernel, by decide +kernel⟩
abbrev s_is_pair_of_hosts : Stmt := top 20
theorem sc_is_pair_of_hosts : FnScope ["linked", "value"] ["linked", "value"] (defScope s_is_pair_of_hosts) := ⟨rfl, rfl, rfl, by decide +kernel, rfl, by decide +kernel, by decide +kernel⟩
abbrev s_steps_towards : Stmt := top 21
theorem sc_steps_towards : FnScope ["linked", "goal", "nearer", "waiting", "host", "neighbor"] ["linked", "goal"] (defScope s_steps_towards) := ⟨rfl, rfl, rfl, by decide +kernel, rfl, by decide +kernel, by decide +kernel⟩
abbrev s_tree_text : Stmt := top 23
theorem sc_tree_text : FnScope ["tree", "hosts", "links", "host", "one", "other"] ["tree"] (defScope s_tree_text) := ⟨rfl, rfl, rfl, by decide +kernel, rfl, by decide +kernel, by decide +kernel⟩
abbrev s_parse_tree : Stmt := top 24
theorem sc_parse_tree : FnScope ["text", "lines", "rest", "tree"] ["text"] (defScope s_parse_tree) := ⟨rfl, rfl, rfl, by decide +kernel, rfl, by decide +kernel, by decide +kernel⟩
abbrev s_split_text : Stmt := top 25
theorem sc_split_text : FnScope ["text", "parts"] ["text"] (defScope s_split_text) := ⟨rfl, rfl, rfl, by decide +kernel, rfl, by decide +kernel, by decide +kernel⟩
abbrev s_check_no_rest : Stmt := top 26
theorem sc_check_no_rest : FnScope ["lines", "rest"] ["lines", "rest"] (defScope s_check_no_rest) := ⟨rfl, rfl, rfl, by decide +kernel, rfl, by decide +kernel, by decide +kernel⟩
abbrev s_tree_of_lines : Stmt := top 27
theorem sc_tree_of_lines : FnScope ["lines", "hosts", "links"] ["lines"] (defScope s_tree_of_lines) := ⟨rfl, rfl, rfl, by decide +kernel, rfl, by decide +kernel, by decide +kernel⟩
abbrev s_leading_hosts : Stmt := top 28
theorem sc_leading_hosts : FnScope ["lines", "hosts", "line", "parts"] ["lines"] (defScope s_leading_hosts) := ⟨rfl, rfl, rfl, by decide +kernel, rfl, by decide +kernel, by decide +kernel⟩
abbrev s_following_links : Stmt := top 29
theorem sc_following_links : FnScope ["lines", "hosts", "linked", "links", "index", "parts", "link", "host"] ["lines", "hosts"] (defScope s_following_links) := ⟨rfl, rfl, rfl, by decide +kernel, rfl, by decide +kernel, by decide +kernel⟩
abbrev s_is_next_link : Stmt := top 30
theorem sc_is_next_link : FnScope ["links", "link"] ["links", "link"] (defScope s_is_next_link) := ⟨rfl, rfl, rfl, by decide +kernel, rfl, by decide +kernel, by decide +kernel⟩
abbrev s_law_rng : Stmt := top 32
theorem sc_law_rng : FnScope ["_law_script", "_law_k", "_law_cell"] ["_law_script", "_law_k"] (defScope s_law_rng) := ⟨rfl, rfl, rfl, by decide +kernel, rfl, by decide +kernel, by decide +kernel⟩
abbrev s_law_draw : Stmt := top 33
theorem sc_law_draw : FnScope ["_law_rng_here", "_law_many", "_law_digit"] ["_law_rng_here", "_law_many"] (defScope s_law_draw) := ⟨rfl, rfl, rfl, by decide +kernel, rfl, by decide +kernel, by decide +kernel⟩
abbrev s_law_names : Stmt := top 34
theorem sc_law_names : FnScope ["_law_rng_here", "_law_many", "_law_letters", "_law_found", "_law_k", "_law_size", "_law_name", "_law_kind", "_law_turn", "_law_letter"] ["_law_rng_here", "_law_many"] (defScope s_law_names) := ⟨rfl, rfl, rfl, by decide +kernel, rfl, by decide +kernel, by decide +kernel⟩
abbrev s_law_shuffled : Stmt := top 35
theorem sc_law_shuffled : FnScope ["_law_rng_here", "_law_some", "_law_rest", "_law_k"] ["_law_rng_here", "_law_some"] (defScope s_law_shuffled) := ⟨rfl, rfl, rfl, by decide +kernel, rfl, by decide +kernel, by decide +kernel⟩
abbrev s_law_links : Stmt := top 36
theorem sc_law_links : FnScope ["_law_rng_here", "_law_names_here", "_law_links_here", "_law_k", "_law_near"] ["_law_rng_here", "_law_names_here"] (defScope s_law_links) := ⟨rfl, rfl, rfl, by decide +kernel, rfl, by decide +kernel, by decide +kernel⟩
abbrev s_law_is_name : Stmt := top 37
theorem sc_law_is_name : FnScope ["_law_value", "_law_sign"] ["_law_value"] (defScope s_law_is_name) := ⟨rfl, rfl, rfl, by decide +kernel, rfl, by decide +kernel, by decide +kernel⟩
abbrev s_law_lines_spoilt : Stmt := top 38
theorem sc_law_lines_spoilt : FnScope ["_law_rng_here", "_law_lines", "_law_menu", "_law_way", "_law_at", "_law_other", "_law_found", "_law_words", "_law_k", "_law_some"] ["_law_rng_here", "_law_lines", "_law_menu"] (defScope s_law_lines_spoilt) := ⟨rfl, rfl, rfl, by decide +kernel, rfl, by decide +kernel, by decide +kernel⟩
abbrev s_law_spoilt : Stmt := top 39
theorem sc_law_spoilt : FnScope ["_law_rng_here", "_law_text", "_law_menu", "_law_way", "_law_at", "_law_sign"] ["_law_rng_here", "_law_text", "_law_menu"] (defScope s_law_spoilt) := ⟨rfl, rfl, rfl, by decide +kernel, rfl, by decide +kernel, by decide +kernel⟩
abbrev s_law_part : Stmt := top 40
theorem sc_law_part : FnScope ["_law_parts", "_law_name", "_law_part_here"] ["_law_parts", "_law_name"] (defScope s_law_part) := ⟨rfl, rfl, rfl, by decide +kernel, rfl, by decide +kernel, by decide +kernel⟩
abbrev s_law_line_right : Stmt := top 41
theorem sc_law_line_right : FnScope ["_law_words", "_law_names_here", "_law_links_here", "_law_parts", "_law_link", "_law_one", "_law_other"] ["_law_words", "_law_names_here", "_law_links_here", "_law_parts"] (defScope s_law_line_right) := ⟨rfl, rfl, rfl, by decide +kernel, rfl, by decide +kernel, by decide +kernel⟩
abbrev s_law_read : Stmt := top 42
theorem sc_law_read : FnScope ["_law_text", "_law_names_here", "_law_links_here", "_law_parts", "_law_lines", "_law_k"] ["_law_text"] (defScope s_law_read) := ⟨rfl, rfl, rfl, by decide +kernel, rfl, by decide +kernel, by decide +kernel⟩
abbrev s_law_told : Stmt := top 43
theorem sc_law_told : FnScope ["_law_text", "_law_told_here", "_law_found", "e", "_law_others"] ["_law_text"] (defScope s_law_told) := ⟨rfl, rfl, rfl, by decide +kernel, rfl, by decide +kernel, by decide +kernel⟩
abbrev s_law_right : Stmt := top 44
theorem sc_law_right : FnScope ["_law_rng_here", "_law_names_here", "_law_text", "_law_first", "_law_last", "_law_menu", "_law_turn", "_law_due"] ["_law_rng_here"] (defScope s_law_right) := ⟨rfl, rfl, rfl, by decide +kernel, rfl, by decide +kernel, by decide +kernel⟩
abbrev s_law : Stmt := top 45
theorem sc_law : FnScope ["_law_script", "_law_k"] ["_law_script"] (defScope s_law) := ⟨rfl, rfl, rfl, by decide +kernel, rfl, by decide +kernel, by decide +kernel⟩
abbrev m_init : Stmt := inClass (top 13) 0
theorem scm_init : FnScope ["self", "hosts", "links", "linked", "host"] ["self", "hosts", "links"] (defScope m_init) := ⟨rfl, rfl, rfl, by decide +kernel, rfl, by decide +kernel, by decide +kernel⟩
abbrev m_eq : Stmt := inClass (top 13) 1
theorem scm_eq : FnScope ["self", "other"] ["self", "other"] (defScope m_eq) := ⟨rfl, rfl, rfl, by decide +kernel, rfl, by decide +kernel, by decide +kernel⟩
abbrev m_len : Stmt := inClass (top 13) 2
theorem scm_len : FnScope ["self"] ["self"] (defScope m_len) := ⟨rfl, rfl, rfl, by decide +kernel, rfl, by decide +kernel, by decide +kernel⟩
abbrev m_repr : Stmt := inClass (top 13) 3
theorem scm_repr : FnScope ["self"] ["self"] (defScope m_repr) := ⟨rfl, rfl, rfl, by decide +kernel, rfl, by decide +kernel, by decide +kernel⟩
abbrev m_hosts : Stmt := inClass (top 13) 4
theorem scm_hosts : FnScope ["self"] ["self"] (defScope m_hosts) := ⟨rfl, rfl, rfl, by decide +kernel, rfl, by decide +kernel, by decide +kernel⟩
abbrev m_links : Stmt := inClass (top 13) 5
theorem scm_links : FnScope ["self", "one", "other"] ["self"] (defScope m_links) := ⟨rfl, rfl, rfl, by decide +kernel, rfl, by decide +kernel, by decide +kernel⟩
abbrev m_neighbors : Stmt := inClass (top 13) 7
theorem scm_neighbors : FnScope ["self", "host"] ["self", "host"] (defScope m_neighbors) := ⟨rfl, rfl, rfl, by decide +kernel, rfl, by decide +kernel, by decide +kernel⟩
end My

namespace My
open PySem PySem.Spec PyProof.Rows L2 Gy Xl Xs Xt
/-! ### the law's numbers: the pot, a draw, a pick -/
/-- the list of two numbers that is drawn from -/
def Rng (H : Hp) (r : Addr) : Prop := ∃ x y : Int, H r = some (.lst [.int x, .int y]) ∧ 0 ≤ x ∧ 0 ≤ y ∧ y < 1099511627776
theorem Rng.ne {H : Hp} {r l : Addr} (h : Rng H r) (hl : H l = none) : l ≠ r := fun z => by
  obtain ⟨x, y, e, _⟩ := h
  rw [← z, hl] at e
  cases e
theorem Rng.upd {H : Hp} {r l : Addr} {o : HO} (h : Rng H r) (hl : H l = none) : Rng (upd H l o) r := by
  obtain ⟨x, y, e, h2⟩ := id h
  exact ⟨x, y, by rw [upd_ne (h.ne hl).symm]; exact e, h2⟩
theorem Rng.upd2 {H : Hp} {r l : Addr} {o : HO} (h : Rng H r) (hl : l ≠ r) : Rng (L2.upd H l o) r := by
  obtain ⟨x, y, e, h2⟩ := id h
  exact ⟨x, y, by rw [upd_ne hl.symm]; exact e, h2⟩
theorem Rng.same {H H' : Hp} {r : Addr} (h : Rng H r) (s : Same H H') : Rng H' r := by
  obtain ⟨x, y, e, h2⟩ := h
  exact ⟨x, y, s _ _ e, h2⟩
section
variable {P : Program} {w : World} {K : PySem.W.Frag} {mg : Str → Option Value} {base : Heap}
def spPot (K : PySem.W.Frag) : Sp := fun vs H Q _ => ∃ (a : Addr) (ns : List Int) (k : Nat), vs = [.ref a, .int (k : Int)] ∧ SqL K H a (ns.map V.int) ∧ k ≤ 100 ∧
  ∀ H' p, Same H H' → H p = none → Rng H' p → Q (.ref p) H'
theorem max_nn (j : Int) : 0 ≤ (if j > 0 then j else 0) := by
  split <;> omega
theorem y_lo (z : Int) (k : Nat) : 0 ≤ z % 2147483587 + 211 * (k : Int) + 5 := by
  have := Int.emod_nonneg z (by decide : (2147483587 : Int) ≠ 0)
  omega
theorem y_hi (z : Int) (k : Nat) (h : k ≤ 100) : z % 2147483587 + 211 * (k : Int) + 5 < 1099511627776 := by
  have := Int.emod_lt_of_pos z (by decide : (0 : Int) < 2147483587)
  omega
theorem ok_pot {f : Addr} {fd : FuncData} (F : Fun K "_law_rng" "_law_rng" s_law_rng f fd) (Y : Bn mg) : FnOk P w K mg base CX0 1 f fd ["_law_script", "_law_k"] (spPot K) := by
  refine F.ok sc_law_rng (fun vs H Q E h => ?_) (fun cdv A outer s H vs Q E hr h => ?_)
  · obtain ⟨a, ns, k, rfl, _⟩ := h
    rfl
  · obtain ⟨a, ns, k, rfl, hS, hk, q⟩ := h
    refine ⟨_, (pss_cons (ps_set (i := 2) sc_law_rng.nd rfl (.inl rfl) (pe_ifExp (pt_cmpR op_lt (pv 1) (pe_callB call_len_seq (by rfl) Y.len PySem.boot_len (pa_cons (pv 0) pa_nil)) (nomark _)) (pe_ix ix_list (pv 0) (pv 1) (fun _ _ => rfl)) (pe_op op_add (pe_op op_mul pe_int (pv 1)) pe_int)))
 (pss_one (ps_ret (pe_lst (pa_cons (pe_callB (call_max2 rfl) (by rfl) Y.max (by decide +kernel) (pa_cons pe_int (pa_cons (pe_op op_sub (pe_callB call_abs (by rfl) Y.abs (by decide +kernel) (pa_cons (pv 2) pa_nil)) (pe_op op_pow pe_int pe_int)) pa_nil))) (pa_cons (pe_op op_add (pe_op op_add (pe_op op_mod (pe_callB call_abs (by rfl) Y.abs (by decide +kernel) (pa_cons (pv 2) pa_nil)) pe_int) (pe_op op_mul pe_int (pv 1))) pe_int) pa_nil)))))), ?_⟩
    refine ⟨_, rfl, _, rfl, a, _, rfl, .inl hS, _, _, rfl, rfl, _, rfl, ite2 (fun c1 => ?A) (fun c1 => ?B)⟩
    case' A =>
      have hk2 : k < ns.length := by
        have := of_decide_eq_true c1
        rw [List.length_map] at this
        omega
      refine ⟨_, rfl, _, rfl, a, _, _, .int ns[k], rfl, rfl, hS, atI_nat (j := k) (by rw [List.getElem?_map, List.getElem?_eq_getElem hk2]; rfl), ?_⟩
    case' B =>
      refine ⟨_, rfl, 7, _, rfl, rfl, .inl ⟨by decide, by decide⟩, _, _, rfl, rfl, ?_⟩
    all_goals
      refine ⟨_, rfl, _, rfl, 10, 18, rfl, rfl, ⟨by decide, by decide, by decide⟩, _, _, rfl, rfl, 0, _, rfl, ?_⟩
      refine ⟨_, rfl, _, rfl, _, _, rfl, rfl, (by decide : (0 : Int) < 2147483587), _, rfl, 211, _, rfl, rfl, .inl ⟨by decide, by decide⟩, _, _, rfl, rfl, _, _, rfl, rfl, ?_⟩
      refine ⟨(by show 2 ≤ sizeLine; decide), fun p hp => ?_⟩
      exact q _ p (same_upd hp) hp ⟨_, _, upd_same, max_nn _, y_lo _ k, y_hi _ k hk⟩
def spDraw : Sp := fun vs H Q _ => ∃ (r : Addr) (m : Int), vs = [.ref r, .int m] ∧ Rng H r ∧ 0 < m ∧ m < 1180591620717411303424 ∧
  ∀ H' d, But r H H' → Rng H' r → 0 ≤ d → d < m → Q (.int d) H'
theorem lg70 {m : Int} (m0 : 0 < m) (m1 : m < 1180591620717411303424) : m.natAbs.log2 < 9000 := by
  have h : m.natAbs < 2 ^ 70 := by
    show m.natAbs < 1180591620717411303424
    omega
  exact Nat.lt_of_lt_of_le ((Nat.log2_lt (by omega)).mpr h) (by decide)
theorem ok_draw {f : Addr} {fd : FuncData} (F : Fun K "_law_draw" "_law_draw" s_law_draw f fd) (Y : Bn mg) : FnOk P w K mg base CX0 1 f fd ["_law_rng_here", "_law_many"] spDraw := by
  refine F.ok sc_law_draw (fun vs H Q E h => ?_) (fun cdv A outer s H vs Q E hr h => ?_)
  · obtain ⟨r, m, rfl, _⟩ := h
    rfl
  · obtain ⟨r, m, rfl, ⟨x, y, hR, x0, y0, y1⟩, m0, m1, q⟩ := h
    refine ⟨_, (pss_cons (ps_if (pt_cmpR op_gt (pe_ix ix_list (pv 0) pe_int (fun _ _ => rfl)) pe_int (nomark _))
 (pss_cons (ps_asg (pe_callB call_divmodW (by rfl) Y.divmod (by decide +kernel) (pa_cons (pe_ix ix_list (pv 0) pe_int (fun _ _ => rfl)) (pa_cons (pv 1) pa_nil))) (pg_tup (by rfl) (pgs_cons (pg_sub (pv 0) pe_int set_list) (pgs_cons (pg_name (i := 2) sc_law_draw.nd rfl (Or.inl rfl)) pgs_nil))))
 (pss_one (ps_ret (pv 2))))
 pss_nil)
 (pss_cons (ps_asg (pe_op op_mod (pe_op op_add (pe_op op_mul (pe_ix ix_list (pv 0) pe_int (fun _ _ => rfl)) pe_int) pe_int) pe_int) (pg_sub (pv 0) pe_int set_list))
 (pss_one (ps_ret (pe_op op_mod (pe_op op_fdiv (pe_op op_mod (pe_op op_mul (pe_ix ix_list (pv 0) pe_int (fun _ _ => rfl)) (pe_ix ix_list (pv 0) pe_int (fun _ _ => rfl))) pe_int) pe_int) (pv 1)))))), ?_⟩
    refine ⟨_, rfl, r, _, 0, .int x, rfl, rfl, SqL.of hR, atI_nat (j := 0) rfl, _, _, rfl, rfl, _, rfl, ite2 (fun c1 => ?_) (fun c1 => ?_)⟩
    · refine ⟨_, rfl, r, _, 0, .int x, rfl, rfl, SqL.of hR, atI_nat (j := 0) rfl, _, rfl, x, m, rfl, ⟨m0, PyProof.noPylong_of_log2 (lg70 m0 m1)⟩, fun p hp => ?_⟩
      have npr : r ≠ p := ne_of_none hR hp
      refine ⟨p, _, rfl, SqT.of upd_same, rfl, _, _, rfl, ?_⟩
      refine ⟨_, rfl, r, _, 0, 0, rfl, rfl, (by rw [upd_ne npr]; exact hR), rfl, ?_⟩
      refine ⟨_, _, rfl, rfl, ?_⟩
      refine ⟨_, rfl, q _ _ ?_ ⟨x / m, y, upd_same, Int.ediv_nonneg x0 (Int.le_of_lt m0), y0, y1⟩ (Int.emod_nonneg _ (by omega)) (Int.emod_lt_of_pos _ m0)⟩
      intro b o nb e
      rw [upd_ne nb, upd_ne (ne_of_none e hp)]
      exact e
    · refine ⟨_, rfl, r, _, 1, .int y, rfl, rfl, SqL.of hR, atI_nat (j := 1) rfl, y, 40692, rfl, rfl, .inl ⟨by omega, by omega⟩, _, _, rfl, rfl, _, _, rfl, rfl, (by decide : (0 : Int) < 2147483399), ?_⟩
      refine ⟨_, rfl, r, _, 1, 1, rfl, rfl, hR, rfl, ?_⟩
      have z0 := Int.emod_nonneg (y * 40692 + 12211) (by decide : (2147483399 : Int) ≠ 0)
      have z1 := Int.emod_lt_of_pos (y * 40692 + 12211) (by decide : (0 : Int) < 2147483399)
      refine ⟨_, rfl, r, _, 1, _, rfl, rfl, SqL.of upd_same, atI_nat (j := 1) rfl, _, rfl, r, _, 1, _, rfl, rfl, SqL.of upd_same, atI_nat (j := 1) rfl, _, _, rfl, rfl, .inl ⟨by omega, by omega⟩, ?_⟩
      refine ⟨_, _, rfl, rfl, (by decide : (0 : Int) < 2147483323), _, 17, rfl, rfl, ⟨by decide, by decide⟩, _, rfl, _, m, rfl, rfl, m0, ?_⟩
      refine q _ _ ?_ ⟨x, _, upd_same, x0, z0, by omega⟩ (Int.emod_nonneg _ (by omega)) (Int.emod_lt_of_pos _ m0)
      intro b o nb e
      rw [upd_ne nb]
      exact e
end
end My

namespace My
open PySem PySem.Spec PyProof.Rows L2 Gy Xl Xs Xt
/-! ### drawn host names: texts of 1 to 8 letters, all different -/
def LET : Str := "abcdefghijklmnopqrstuvwxyz"
/-- a text of 1 to 8 letters -/
def Nm (x : Str) : Prop := 1 ≤ x.length ∧ x.length ≤ 8 ∧ ∀ c ∈ x.cps.toList, c ∈ LET.cps.toList
theorem mem_cat {a b : Str} {c : Nat} (h : c ∈ (a ++ b).cps.toList) : c ∈ a.cps.toList ∨ c ∈ b.cps.toList := by
  have e : (a ++ b).cps.toList = a.cps.toList ++ b.cps.toList := by
    show (a.cps ++ b.cps).toList = _
    rw [Array.toList_append]
  rw [e] at h
  exact List.mem_append.mp h
theorem join_in {p : Nat → Prop} : ∀ ys : List Str, (∀ y ∈ ys, ∀ c ∈ y.cps.toList, p c) → ∀ c ∈ (Str.join "" ys).cps.toList, p c
  | [], _, c, h => by
    have h' : c ∈ ([] : List Nat) := h
    cases h'
  | [y], h, c, hc => h y List.mem_cons_self c hc
  | y :: z :: r, h, c, hc => by
    have hc' : c ∈ (y ++ "" ++ Str.join "" (z :: r)).cps.toList := hc
    rcases mem_cat hc' with hc' | hc'
    · rcases mem_cat hc' with hc' | hc'
      · exact h y List.mem_cons_self c hc'
      · have h' : c ∈ ([] : List Nat) := hc'
        cases h'
    · exact join_in (z :: r) (fun u hu => h u (List.mem_cons_of_mem _ hu)) c hc'
theorem join_len : ∀ ys : List Str, (∀ y ∈ ys, y.length = 1) → (Str.join "" ys).length = ys.length
  | [], _ => rfl
  | [y], h => h y List.mem_cons_self
  | y :: z :: r, h => by
    have ih := join_len (z :: r) fun u hu => h u (List.mem_cons_of_mem _ hu)
    have hy := h y List.mem_cons_self
    show (y ++ "" ++ Str.join "" (z :: r)).length = _
    rw [strLen_append, strLen_append, ih, hy]
    show 1 + 0 + (r.length + 1) = r.length + 1 + 1
    omega
theorem sum_ones : ∀ ys : List Str, (∀ y ∈ ys, y.length = 1) → (ys.map (·.length)).sum ≤ ys.length
  | [], _ => Nat.le_refl _
  | y :: r, h => by
    have h1 := h y List.mem_cons_self
    have h2 := sum_ones r fun z hz => h z (List.mem_cons_of_mem _ hz)
    rw [List.map_cons, List.sum_cons, List.length_cons]
    omega
theorem cut_some (x : Str) (n : Nat) : cutS x none (some (n : Int)) = ⟨(x.cps.toList.take (min n x.length)).toArray⟩ := by
  unfold cutS
  rw [HT.sIx_none, HT.sIx_nat, List.drop_zero, Nat.sub_zero]
/-- the first eight signs of a name with letters behind it -/
theorem nm_cut {x y : Str} (hx : Nm x) (hy : Nm y) : Nm (cutS (x ++ y) none (some 8)) := by
  have e := cut_some (x ++ y) 8
  have l : (x ++ y).length = x.length + y.length := strLen_append x y
  have l2 : (x ++ y).cps.toList.length = (x ++ y).length := Array.length_toList
  obtain ⟨h1, h2, h3⟩ := hx
  obtain ⟨k1, k2, k3⟩ := hy
  rw [show (some 8 : Option Int) = some ((8 : Nat) : Int) from rfl, e]
  refine ⟨?_, ?_, fun c hc => ?_⟩
  · show 1 ≤ ((x ++ y).cps.toList.take (min 8 (x ++ y).length)).toArray.size
    rw [List.size_toArray, List.length_take]
    omega
  · show ((x ++ y).cps.toList.take (min 8 (x ++ y).length)).toArray.size ≤ 8
    rw [List.size_toArray, List.length_take]
    omega
  · have hc' : c ∈ (x ++ y).cps.toList.take (min 8 (x ++ y).length) := by
      simpa using hc
    rcases mem_cat (List.mem_of_mem_take hc') with z | z
    · exact h3 c z
    · exact k3 c z
/-- seven signs of a name and a letter -/
def tl (x : Str) (c : Nat) : Str := cutS x none (some 7) ++ ⟨#[c]⟩
theorem tl_cps (x : Str) (c : Nat) : (tl x c).cps.toList = x.cps.toList.take (min 7 x.length) ++ [c] := by
  unfold tl
  rw [show (some 7 : Option Int) = some ((7 : Nat) : Int) from rfl, cut_some]
  show ((x.cps.toList.take (min 7 x.length)).toArray ++ #[c]).toList = _
  rw [Array.toList_append]
theorem tl_nm {x : Str} {c : Nat} (hx : Nm x) (hc : c ∈ LET.cps.toList) : Nm (tl x c) := by
  have e := tl_cps x c
  have l : (tl x c).length = (tl x c).cps.toList.length := Array.length_toList.symm
  have l2 : x.cps.toList.length = x.length := Array.length_toList
  have l3 : (x.cps.toList.take (min 7 x.length) ++ [c]).length = min 7 x.length + 1 := by
    rw [List.length_append, List.length_take, l2]
    simp
  rw [e, l3] at l
  refine ⟨by omega, by omega, fun d hd => ?_⟩
  rw [e] at hd
  rcases List.mem_append.mp hd with z | z
  · exact hx.2.2 d (List.mem_of_mem_take z)
  · rw [List.mem_singleton.mp z]
    exact hc
theorem tl_inj (x : Str) (c d : Nat) (h : tl x c = tl x d) : c = d := by
  have e : (tl x c).cps.toList = (tl x d).cps.toList := by rw [h]
  rw [tl_cps, tl_cps] at e
  have e2 := List.append_cancel_left e
  injection e2
theorem inV_strs (z : Str) : ∀ xs : List Str, inV (.str z) (xs.map V.str) = decide (z ∈ xs)
  | [] => rfl
  | x :: xs => by
    have ih := inV_strs z xs
    unfold inV at ih ⊢
    rw [List.map_cons, List.any_cons, ih]
    show (x == z || decide (z ∈ xs)) = decide (z ∈ x :: xs)
    by_cases e : x = z
    · subst e
      simp
    · rw [beq_eq_false_iff_ne.mpr e, Bool.false_or]
      congr 1
      rw [List.mem_cons, eq_iff_iff]
      exact ⟨.inr, fun h => h.resolve_left fun u => e u.symm⟩
theorem flat_strs : ∀ xs : List Str, (xs.map V.str).all flatV = true
  | [] => rfl
  | x :: xs => by
    rw [List.map_cons, List.all_cons, flat_strs xs]
    rfl
theorem len_le_of_sub {α : Type} [BEq α] [LawfulBEq α] : ∀ {l m : List α}, l.Nodup → (∀ x ∈ l, x ∈ m) → l.length ≤ m.length
  | [], _, _, _ => Nat.zero_le _
  | x :: l, m, nd, h => by
    rw [List.nodup_cons] at nd
    have hx := h x List.mem_cons_self
    have ih := len_le_of_sub (l := l) (m := m.erase x) nd.2 fun y hy => (List.mem_erase_of_ne (fun e : y = x => nd.1 (by rw [← e]; exact hy))).mpr (h y (List.mem_cons_of_mem _ hy))
    rw [List.length_erase_of_mem hx] at ih
    have : 0 < m.length := List.length_pos_of_mem hx
    rw [List.length_cons]
    omega
theorem nd_map {α β : Type} {f : α → β} (inj : ∀ a b, f a = f b → a = b) : ∀ {l : List α}, l.Nodup → (l.map f).Nodup
  | [], _ => List.nodup_nil
  | x :: l, h => by
    rw [List.nodup_cons] at h
    rw [List.map_cons, List.nodup_cons]
    refine ⟨fun z => ?_, nd_map inj h.2⟩
    obtain ⟨y, hy, e⟩ := List.mem_map.mp z
    exact h.1 (inj _ _ e ▸ hy)
theorem nodup_snoc {α : Type} {xs : List α} {x : α} (h : xs.Nodup) (n : x ∉ xs) : (xs ++ [x]).Nodup := by
  rw [List.nodup_append]
  refine ⟨h, by simp, fun a ha b hb e => n ?_⟩
  rw [List.mem_singleton.mp hb] at e
  rw [← e]
  exact ha
/-- what is tried for a name -/
def triesOf (x : Str) : List Str := x :: LET.cps.toList.map (tl x)
theorem tries_nm {x : Str} (h : Nm x) : ∀ y ∈ triesOf x, Nm y := fun y hy => by
  rcases List.mem_cons.mp hy with rfl | hy
  · exact h
  · obtain ⟨c, hc, rfl⟩ := List.mem_map.mp hy
    exact tl_nm h hc
theorem tries_out {x : Str} {xs : List Str} (h : xs.length < 26) : ∃ z zs, (triesOf x).filter (fun y => decide (y ∉ xs)) = z :: zs := by
  cases e : (triesOf x).filter (fun y => decide (y ∉ xs)) with
  | cons z zs => exact ⟨z, zs, rfl⟩
  | nil =>
    rw [List.filter_eq_nil_iff] at e
    have nd : (LET.cps.toList.map (tl x)).Nodup := nd_map (tl_inj x) (by decide +kernel)
    have le := len_le_of_sub (m := xs) nd fun y hy => by
      have z := e y (List.mem_cons_of_mem _ hy)
      exact Decidable.of_not_not fun w => z (decide_eq_true w)
    rw [List.length_map, show LET.cps.toList.length = 26 by decide +kernel] at le
    omega
theorem dps_strs {K : PySem.W.Frag} {H : Hp} : ∀ xs : List Str, DpAll K H (xs.map V.str) (xs.map PyData.str)
  | [] => .nil
  | x :: xs => .cons (.str x) (dps_strs xs)
theorem nm_ok {x : Str} (h : Nm x) : PyData.strOk x = true := by
  unfold PyData.strOk
  rw [← Array.all_toList, List.all_eq_true]
  intro c hc
  have z : ∀ d ∈ LET.cps.toList, d < 0x110000 := by decide +kernel
  exact decide_eq_true (z c (h.2.2 c hc))
theorem lay_strs : ∀ xs : List Str, (∀ x ∈ xs, Nm x) → PyData.canLayAll0 (xs.map PyData.str) = true
  | [], _ => rfl
  | b :: r, h => by
    show (PyData.strOk b && PyData.canLayAll0 (r.map PyData.str)) = true
    rw [nm_ok (h b List.mem_cons_self), lay_strs r fun x hx => h x (List.mem_cons_of_mem _ hx)]
    rfl
theorem deep_strs : ∀ xs : List Str, PyData.depthAll (xs.map PyData.str) = 0
  | [] => rfl
  | b :: r => by
    show max 0 (PyData.depthAll (r.map PyData.str)) = 0
    rw [deep_strs r]
    rfl
theorem sh_strs (xs : List Str) (h : ∀ x ∈ xs, Nm x) : SeqAt.shaped (.list (xs.map PyData.str)) = true := by
  unfold SeqAt.shaped
  rw [show PyData.canLay0 (.list (xs.map PyData.str)) = true from lay_strs xs h, show PyData.depth (.list (xs.map PyData.str)) = 1 by show PyData.depthAll _ + 1 = 1; rw [deep_strs]]
  decide
/-- the law's names of two letters -/
def qq (c : Nat) : Str := ⟨#[c]⟩ ++ "q"
theorem qq_nm {c : Nat} (h : c ∈ LET.cps.toList) : Nm (qq c) := by
  refine ⟨by show 1 ≤ (⟨#[c]⟩ ++ "q" : Str).length; rw [strLen_append]; exact Nat.le_add_right _ _, by show (⟨#[c]⟩ ++ "q" : Str).length ≤ 8; rw [strLen_append]; exact (show 1 + 1 ≤ 8 by decide), fun d hd => ?_⟩
  rcases mem_cat hd with z | z
  · have z' : d ∈ [c] := z
    rw [List.mem_singleton.mp z']
    exact h
  · have z' : d ∈ [113] := z
    rw [List.mem_singleton.mp z']
    decide +kernel
theorem qq_inj {c d : Nat} (h : qq c = qq d) : c = d := by
  have e : (qq c).cps.toList = (qq d).cps.toList := by rw [h]
  have e' : [c, 113] = [d, 113] := e
  injection e'
theorem qq_out {xs : List Str} (h : xs.length < 26) : ¬ ∀ c ∈ LET.cps.toList, qq c ∈ xs := fun all => by
  have nd : (LET.cps.toList.map qq).Nodup := by
    have n0 : LET.cps.toList.Nodup := by decide +kernel
    exact nd_map (fun a b e => qq_inj e) n0
  have := len_le_of_sub nd (m := xs) fun y hy => by
    obtain ⟨c, hc, rfl⟩ := List.mem_map.mp hy
    exact all c hc
  rw [List.length_map] at this
  have e : LET.cps.toList.length = 26 := by decide +kernel
  omega
section
variable {P : Program} {w : World} {K : PySem.W.Frag} {mg : Str → Option Value} {base : Heap}
theorem words_nm {x : Str} (h : x ∈ (["host", "link", "events", "ask", "yes", "bye", "message", "write"] : List Str)) : Nm x := by
  have z : ∀ y ∈ (["host", "link", "events", "ask", "yes", "bye", "message", "write"] : List Str), 1 ≤ y.length ∧ y.length ≤ 8 ∧ ∀ c ∈ y.cps.toList, c ∈ LET.cps.toList := by decide +kernel
  exact z x h
def spNames : Sp := fun vs H Q _ => ∃ (r : Addr) (n : Nat), vs = [.ref r, .int (n : Int)] ∧ Rng H r ∧ n ≤ 20 ∧
  ∀ (H' : Hp) (L : Addr) (xs : List Str), But r H H' → Rng H' r → H L = none → H' L = some (.lst (xs.map V.str)) → xs.length = n → (∀ x ∈ xs, Nm x) → xs.Nodup → Q (.ref L) H'
theorem ok_names {f : Addr} {fd : FuncData} (F : Fun K "_law_names" "_law_names" s_law_names f fd) (Y : Bn mg) (G_law_draw : Fk P w K mg base CX0 1 "_law_draw" ["_law_rng_here", "_law_many"] spDraw) : FnOk P w K mg base CX0 2 f fd ["_law_rng_here", "_law_many"] spNames := by
  refine F.ok sc_law_names (fun vs H Q E h => ?_) (fun cdv A outer s H vs Q E hr h => ?_)
  · obtain ⟨r, n, rfl, _⟩ := h
    rfl
  · obtain ⟨r, n, rfl, hR, n20, q⟩ := h
    have hu64 := hr.units
    refine ⟨_, (pss_cons (ps_set (i := 2) sc_law_names.nd rfl (.inr rfl) pe_str)
 (pss_cons (ps_set (i := 3) sc_law_names.nd rfl (.inr rfl) (pe_lst pa_nil))
 (pss_cons (ps_for PassesOwn.never rfl (pi_range1 (by rfl) Y.range (pa_cons (pv 1) pa_nil)) (pg_name (i := 4) sc_law_names.nd rfl (Or.inl rfl))
 (pss_cons (ps_set (i := 5) sc_law_names.nd rfl (.inl rfl) (pe_ix ix_list (pe_lst (pa_cons pe_int (pa_cons pe_int (pa_cons pe_int (pa_cons pe_int pa_nil))))) (pe_callF G_law_draw (hr.mono (by decide)) (by rfl) pass0 (pa_cons (pv 0) (pa_cons pe_int pa_nil))) (fun _ _ => rfl)))
 (pss_cons (ps_set (i := 6) sc_law_names.nd rfl (.inl rfl) (pe_join pe_str (pe_lc (own := [("_law_turn", 8)]) (g := gName 8) (tt := tYes) rfl sc_law_names.nd (pi_range1 (by rfl) Y.range (pa_cons (pv 5) pa_nil)) (blkOk_by (N := ["_law_rng_here", "_law_many", "_law_letters", "_law_found", "_law_k", "_law_size", "_law_name", "_law_kind", "_law_turn", "_law_letter"]) (sc := defScope s_law_names) (by decide +kernel)) (fun _ _ _ _ _ => (pg_name (i := 8) sc_law_names.nd rfl (Or.inl rfl))) (fun _ _ _ _ _ => pts_nil) (fun _ _ _ _ _ => (pe_ix ix_str (pv 2) (pe_callF G_law_draw (hr.mono (by decide)) (by rfl) pass0 (pa_cons (pv 0) (pa_cons pe_int pa_nil))) (fun _ _ => rfl))))))
 (pss_cons (ps_set (i := 7) sc_law_names.nd rfl (.inl rfl) (pe_callF G_law_draw (hr.mono (by decide)) (by rfl) pass0 (pa_cons (pv 0) (pa_cons pe_int pa_nil))))
 (pss_cons (ps_if (pt_cmpR op_eq (pv 7) pe_int (nomark _))
 (pss_one (ps_set (i := 6) sc_law_names.nd rfl (.inl rfl) (pe_ix ix_list (pe_lst (pa_cons pe_str (pa_cons pe_str (pa_cons pe_str (pa_cons pe_str (pa_cons pe_str (pa_cons pe_str (pa_cons pe_str (pa_cons pe_str pa_nil))))))))) (pe_callF G_law_draw (hr.mono (by decide)) (by rfl) pass0 (pa_cons (pv 0) (pa_cons pe_int pa_nil))) (fun _ _ => rfl))))
 (pss_one (ps_if (PW.pt (pw_and (pt_cmpR op_lt (pv 7) pe_int (nomark _)) (pw_and1 (pt_cmpR (op_neD hu64) (pv 3) (pe_lst pa_nil) (nomark _)))))
 (pss_one (ps_set (i := 6) sc_law_names.nd rfl (.inl rfl) (pe_slice sl_str (pe_op op_add_str (pe_ix ix_list (pv 3) (pe_un un_neg pe_int) (fun _ _ => rfl)) (pv 6)) po_none (po_some pe_int))))
 pss_nil)))
 (pss_cons (ps_if (pt_cmpR op_in_seq (pv 6) (pv 3) rfl)
 (pss_one (ps_set (i := 6) sc_law_names.nd rfl (.inl rfl) (pe_ix ix_list (pe_lc (own := [("_law_letter", 9)]) (g := gName 9) (tt := tTest (tOp (rIn K true) (tOp _ (tVar 9) (tC (.str "q"))) (tVar 3))) rfl sc_law_names.nd (pi_str (pv 2)) (blkOk_by (N := ["_law_rng_here", "_law_many", "_law_letters", "_law_found", "_law_k", "_law_size", "_law_name", "_law_kind", "_law_turn", "_law_letter"]) (sc := defScope s_law_names) (by decide +kernel)) (fun _ _ _ _ _ => (pg_name (i := 9) sc_law_names.nd rfl (Or.inl rfl))) (fun _ _ _ _ _ => (pts_one (pt_cmpR (show OpR _ (compareOp .NotIn) (rIn K true) from op_notIn_seq) (pe_op op_add_str (pv 9) pe_str) (pv 3) rfl))) (fun _ _ _ _ _ => (pe_op op_add_str (pv 9) pe_str))) pe_int (fun _ _ => rfl))))
 pss_nil)
 (pss_one (ps_expr (pe_bm PySem.F.plainAttrs_list PySem.F.slot_list_append PySem.F.type_list_append mt_append (pv 3) (pa_cons (pv 6) pa_nil))))))))))
 (pss_one (ps_ret (pv 3)))))), ?_⟩
    refine ⟨Nat.zero_le _, fun L hL0 => ?_⟩
    have nL : L ≠ r := hR.ne hL0
    refine ⟨_, rfl, (n : Int), rfl, by omega, by omega, ?_⟩
    refine for_it (walk_range (lo := 0) (n := ((n : Int) - 0).toNat)) (fun i σ H' => (∃ a b c d e f, σ = [some (.ref r), some (.int (n : Int)), some (.str LET), some (.ref L), a, b, c, d, e, f]) ∧ But r H H' ∧ Rng H' r ∧
        ∃ xs : List Str, H' L = some (.lst (xs.map V.str)) ∧ xs.length = i ∧ (∀ x ∈ xs, Nm x) ∧ xs.Nodup)
      ⟨⟨_, _, _, _, _, _, rfl⟩, But.of (same_upd hL0), hR.upd hL0, [], upd_same, rfl, (fun _ z => nomatch z), List.nodup_nil⟩ (fun _ _ _ _ _ => trivial) ?_ ?_
    · rintro i y σ H1 H2 hi ⟨⟨a, b, c, d, e, f, rfl⟩, b1, R1, xs, hL, el, nm, nd⟩ ⟨rfl, rfl⟩
      have i20 : i < 20 := by omega
      -- the size
      refine ⟨(by show 4 ≤ sizeLine; decide), fun l hl => ?_⟩
      refine ⟨_, rfl, r, 4, rfl, R1.upd hl, by decide, by decide, fun H3 d3 b3 R3 d30 d31 => ?_⟩
      have nl : l ≠ r := R1.ne hl
      have hl3 := b3 l _ nl upd_same
      have hL3 := b3 L _ nL (same_upd hl L _ hL)
      have b03 : But r H H3 := b1.trans ((But.of (same_upd hl)).trans b3)
      obtain ⟨v, hv, mv⟩ := at_in (xs := [_, _, _, _]) d30 d31
      refine ⟨l, _, d3, v, rfl, rfl, SqL.of hl3, hv, ?_⟩
      have sz : ∃ m : Nat, v = .int (m : Int) ∧ 1 ≤ m ∧ m ≤ 8 := by
        simp only [List.mem_cons, List.not_mem_nil, or_false] at mv
        rcases mv with rfl | rfl | rfl | rfl
        · exact ⟨1, rfl, by decide, by decide⟩
        · exact ⟨1, rfl, by decide, by decide⟩
        · exact ⟨2, rfl, by decide, by decide⟩
        · exact ⟨8, rfl, by decide, by decide⟩
      clear mv hv hl3
      obtain ⟨m, rfl, m1, m8⟩ := sz
      -- the letters
      refine ⟨⟨_, rfl⟩, _, rfl, (m : Int), rfl, by omega, by omega, fun D hD => ?_⟩
      have nD : D ≠ r := R3.ne hD
      refine lc_it (walk_range (lo := 0) (n := ((m : Int) - 0).toNat)) (fun i H' => But r H3 H' ∧ Rng H' r ∧ ∃ ys : List Str, H' D = some (.lst (ys.map V.str)) ∧ ys.length = i ∧ (∀ y ∈ ys, y.length = 1) ∧ ∀ y ∈ ys, ∀ c ∈ y.cps.toList, c ∈ LET.cps.toList)
        ⟨But.of (same_upd hD), R3.upd hD, [], upd_same, rfl, (fun y z => nomatch z), fun y z => nomatch z⟩ (fun _ _ _ _ => trivial) ?_ ?_
      · rintro j y H4 H5 hj ⟨b4, R4, ys, hY, yl, y1, y2⟩ ⟨rfl, rfl⟩
        refine ⟨rfl, ?_⟩
        dsimp only [tYes]
        refine iteT ?_
        refine ⟨_, rfl, _, rfl, r, 26, rfl, R4, by decide, by decide, fun H6 d6 b6 R6 d60 d61 => ?_⟩
        obtain ⟨c, hc, mc⟩ := at_in (xs := LET.cps.toList) d60 d61
        refine ⟨LET, d6, c, rfl, rfl, (by decide), hc, _, b6 D _ nD hY, ?_, ?_, ?_, ys ++ [⟨#[c]⟩], ?_, ?_, ?_, ?_⟩
        · rw [List.length_map, yl]
          exact small200 (by omega)
        · exact (b4.trans b6).upd hD
        · obtain ⟨x1, z1, h1, h2⟩ := R6
          exact ⟨x1, z1, by rw [upd_ne nD.symm]; exact h1, h2⟩
        · rw [upd_same, List.map_append]
          rfl
        · rw [List.length_append, yl]
          rfl
        · intro y hy'
          rcases List.mem_append.mp hy' with z | z
          · exact y1 y z
          · rw [List.mem_singleton.mp z]
            rfl
        · intro y hy'
          rcases List.mem_append.mp hy' with z | z
          · exact y2 y z
          · rw [List.mem_singleton.mp z]
            intro c' hc'
            have hc2 : c' ∈ [c] := hc'
            rw [List.mem_singleton.mp hc2]
            exact mc
      rintro H4 ⟨b4, R4, ys, hY, yl, y1, y2⟩
      refine ⟨"", D, ys, rfl, rfl, .inl (SqL.of hY), ?_, ?_⟩
      · have e1 : (ys.map (·.length)).sum ≤ ys.length := sum_ones ys y1
        show (ys.map (·.length)).sum + ys.length * 0 ≤ 16777216
        omega
      rw [TL.join_eq]
      have nm0 : Nm (Str.join "" ys) := by
        have := join_len ys y1
        exact ⟨by omega, by omega, join_in ys y2⟩
      generalize Str.join "" ys = x0 at nm0 ⊢
      have hL4 := b4 L _ nL hL3
      have b04 := b03.trans b4
      clear b4 y1 y2 hY yl
      -- the kind
      refine ⟨_, rfl, r, 8, rfl, R4, by decide, by decide, fun H5 k b5 R5 k0 k1 => ?_⟩
      have hL5 := b5 L _ nL hL4
      have b05 := b04.trans b5
      clear b5 hL4 b04
      refine ⟨_, rfl, rfl, _, rfl, ite2 (fun c1 => ?A) (fun c1 => ?B)⟩
      case' A =>
        refine ⟨(by show 8 ≤ sizeLine; decide), fun l2 hl2 => ?_⟩
        refine ⟨_, rfl, r, 8, rfl, R5.upd hl2, by decide, by decide, fun H6 d6 b6 R6 d60 d61 => ?_⟩
        have nl2 : l2 ≠ r := R5.ne hl2
        have hl6 := b6 l2 _ nl2 upd_same
        have hL6 := b6 L _ nL (same_upd hl2 L _ hL5)
        have b06 : But r H H6 := b05.trans ((But.of (same_upd hl2)).trans b6)
        obtain ⟨v2, hv2, mv2⟩ := at_in (xs := (["host", "link", "events", "ask", "yes", "bye", "message", "write"] : List Str).map V.str) d60 d61
        refine ⟨l2, _, d6, v2, rfl, rfl, SqL.of hl6, hv2, ?_⟩
        obtain ⟨x9, mx, rfl⟩ := List.mem_map.mp mv2
        have nm1 := words_nm mx
        clear mv2 hv2 hl6 mx b6
      case' B =>
        refine ⟨_, rfl, k, 3, rfl, rfl, _, rfl, ite2 (fun c2 => ?C) (fun c2 => ?D)⟩
        case' C =>
          refine ⟨_, rfl, Nat.zero_le _, fun l2 hl2 => ?_⟩
          refine ⟨_, _, .lst (SqL.of (same_upd hl2 L _ hL5)) (dps_strs xs), .lst (SqL.of upd_same) .nil, sh_strs xs nm, rfl, _, rfl, ite2 (fun c3 => ?E) (fun c3 => ?G)⟩
          case' E =>
            obtain ⟨xs1, xl, ex⟩ : ∃ xs1 xl, xs = xs1 ++ [xl] := by
              cases xs with
              | nil => exact absurd c3 (by decide)
              | cons x t => exact ⟨_, _, (List.dropLast_concat_getLast (l := x :: t) (by simp)).symm⟩
            have nl := nm xl (by rw [ex]; exact List.mem_append_right _ List.mem_cons_self)
            have nm1 := nm_cut nl nm0
            refine ⟨_, rfl, 1, rfl, L, _, -1, .str xl, rfl, rfl, SqL.of (same_upd hl2 L _ hL5), (by rw [ex, List.map_append]; exact atI_last _ _), _, rfl, xl, x0, rfl, rfl, (by have := nl.2.1; have := nm0.2.1; exact Nat.le_of_lt (small200 (by omega))), 8, rfl, _, rfl, (by have := nl.2.1; have := nm0.2.1; rw [strLen_append]; exact Nat.le_of_lt (small200 (by omega))), ?_⟩
            have b06 := b05.trans (But.of (same_upd (o := .lst []) hl2))
            have R6 := R5.upd (o := .lst []) hl2
            have hL6 := same_upd (o := .lst []) hl2 L _ hL5
            generalize cutS (xl ++ x0) none (some 8) = x9 at nm1 ⊢
          case' G =>
            have nm1 := nm0
            generalize x0 = x9 at nm1 ⊢
            have b06 := b05.trans (But.of (same_upd (o := .lst []) hl2))
            have R6 := R5.upd (o := .lst []) hl2
            have hL6 := same_upd (o := .lst []) hl2 L _ hL5
        case' D =>
          have nm1 := nm0
          generalize x0 = x9 at nm1 ⊢
          have b06 := b05
          have R6 := R5
          have hL6 := hL5
      all_goals
        refine ⟨_, rfl, _, rfl, L, _, rfl, .inl (SqL.of hL6), rfl, flat_strs _, _, rfl, ite2 (fun c9 => ?_) (fun c9 => ?_)⟩
        · refine ⟨_, rfl, LET, rfl, fun D9 hD9 => ?_⟩
          refine lc_it (walk_str (z := LET)) (fun i H' => Same _ H' ∧ ∃ zs : List Str, H' D9 = some (.lst (zs.map V.str)) ∧ (∀ z ∈ zs, Nm z ∧ z ∉ xs) ∧ zs.length ≤ i ∧ (zs = [] → ∀ c ∈ LET.cps.toList.take i, qq c ∈ xs))
            ⟨same_upd hD9, [], upd_same, (fun _ z => nomatch z), Nat.le_refl _, fun _ _ z => nomatch z⟩ (fun _ _ _ _ => trivial) ?_ ?_
          · rintro j y H7 H8 hj ⟨sm, zs, hZ, hz, zl, z0⟩ ⟨rfl, c, hc, rfl⟩
            have hc' : LET.cps.toList[j]? = some c := by rw [Array.getElem?_toList]; exact hc
            have mc := List.mem_of_getElem? hc'
            refine ⟨rfl, ?_⟩
            refine ⟨_, rfl, ⟨#[c]⟩, "q", rfl, rfl, (show 1 + 1 ≤ sizeLine by decide), _, rfl, L, _, rfl, .inl (SqL.of (sm L _ hL6)), rfl, flat_strs _, _, rfl, ite2 (fun c8 => ?_) (fun c8 => ?_)⟩
            · refine ⟨_, rfl, ⟨#[c]⟩, "q", rfl, rfl, (show 1 + 1 ≤ sizeLine by decide), _, hZ, ?_, same_upd2 sm hD9, zs ++ [qq c], ?_, ?_, ?_, ?_⟩
              · rw [List.length_map]
                have : LET.cps.size = 26 := by decide +kernel
                exact small200 (by omega)
              · rw [upd_same, List.map_append]
                rfl
              · intro z mz
                rcases List.mem_append.mp mz with mz | mz
                · exact hz z mz
                · rw [List.mem_singleton.mp mz]
                  refine ⟨qq_nm mc, fun mx => ?_⟩
                  have c8' : (!inV (.str (qq c)) (xs.map V.str)) = true := c8
                  rw [inV_strs, decide_eq_true mx] at c8'
                  cases c8'
              · rw [List.length_append]
                exact Nat.succ_le_succ zl
              · intro z
                cases zs <;> cases z
            · refine ⟨sm, zs, hZ, hz, Nat.le_succ_of_le zl, fun e c' hc2 => ?_⟩
              rw [List.take_add_one, hc'] at hc2
              rcases List.mem_append.mp hc2 with hc2 | hc2
              · exact z0 e c' hc2
              · have hc3 : c' ∈ [c] := hc2
                rw [List.mem_singleton.mp hc3]
                have c8' : ¬ (!inV (.str (qq c)) (xs.map V.str)) = true := c8
                rw [inV_strs] at c8'
                cases z : decide (qq c ∈ xs) with
                | true => exact of_decide_eq_true z
                | false => exact absurd (by rw [z]; rfl) c8'
          · rintro H7 ⟨sm, zs, hZ, hz, zl, z0⟩
            cases zs with
            | nil =>
              refine absurd (z0 rfl) ?_
              rw [List.take_of_length_le (by rw [Array.length_toList]; exact Nat.le_refl _)]
              exact qq_out (by omega)
            | cons z zs =>
              obtain ⟨nz, oz⟩ := hz z List.mem_cons_self
              refine ⟨D9, _, 0, .str z, rfl, rfl, SqL.of hZ, atI_nat (j := 0) rfl, ?_⟩
              refine ⟨_, rfl, .inl ⟨rfl, _, SqL.of (sm L _ hL6)⟩, _, rfl, L, _, _, rfl, rfl, sm L _ hL6, (by rw [List.length_map]; exact small200 (by omega)), ⟨_, _, _, _, _, _, rfl⟩, ?_, ?_, xs ++ [z], ?_, ?_, ?_, nodup_snoc nd oz⟩
              · exact (b06.trans (But.of sm)).upd hL0
              · obtain ⟨x1, z1, h1, h2⟩ := R6.same sm
                exact ⟨x1, z1, by rw [upd_ne nL.symm]; exact h1, h2⟩
              · rw [upd_same, List.map_append]
                rfl
              · rw [List.length_append, el]
                rfl
              · intro x hx
                rcases List.mem_append.mp hx with hx | hx
                · exact nm x hx
                · rw [List.mem_singleton.mp hx]
                  exact nz
        · refine ⟨_, rfl, .inl ⟨rfl, _, SqL.of hL6⟩, _, rfl, L, _, _, rfl, rfl, hL6, (by rw [List.length_map]; exact small200 (by omega)), ⟨_, _, _, _, _, _, rfl⟩, b06.upd hL0, ?_, xs ++ [x9], ?_, ?_, ?_, nodup_snoc nd ?_⟩
          · obtain ⟨x1, z1, h1, h2⟩ := R6
            exact ⟨x1, z1, by rw [upd_ne nL.symm]; exact h1, h2⟩
          · rw [upd_same, List.map_append]
            rfl
          · rw [List.length_append, el]
            rfl
          · intro x hx
            rcases List.mem_append.mp hx with hx | hx
            · exact nm x hx
            · rw [List.mem_singleton.mp hx]
              exact nm1
          · intro mx
            exact absurd (by rw [inV_strs]; exact decide_eq_true mx) c9
    · rintro σ H1 ⟨⟨a, b, c, d, e, f, rfl⟩, b1, R1, xs, hL, el, nm, nd⟩
      exact ⟨_, rfl, q _ L xs b1 R1 hL0 hL (by omega) nm nd⟩
end
end My

namespace My
open PySem PySem.Spec PyProof.Rows L2 Gy Xl Xs Xt
/-! ### texts of some signs -/
def allIn (cs x : Str) : Bool := x.cps.toList.all fun c => decide (c ∈ cs.cps.toList)
def textOf (v : V) (cs : Str) (n : Int) : Bool := match v with
  | .str x => decide ((1 : Int) ≤ (x.length : Int)) && decide ((x.length : Int) ≤ n) && allIn cs x
  | _ => false
/-- a value whose kind is known -/
inductive Kd (K : PySem.W.Frag) (H : Hp) : V → Prop
  | str (x : Str) (h : x.length ≤ sizeLine) : Kd K H (.str x)
  | oth {v : V} {t : String} (ty : TyX K H v (.type t)) (n : kitB t "str" = some false) (no : ∀ x, v ≠ .str x) : Kd K H v
theorem textOf_oth {v : V} (no : ∀ x, v ≠ .str x) (cs : Str) (n : Int) : textOf v cs n = false := by
  cases v with
  | str x => exact absurd rfl (no x)
  | _ => rfl

section
variable {P : Program} {w : World} {K : PySem.W.Frag} {mg : Str → Option Value} {base : Heap}
def spText (K : PySem.W.Frag) : Sp := fun vs H Q _ => ∃ (v : V) (cs : Str) (n : Int), vs = [v, .str cs, .int n] ∧ Kd K H v ∧
  ∀ H', Same H H' → Q (.bl (textOf v cs n)) H'
theorem take_succ_all {l : List Nat} {i c : Nat} (h : l[i]? = some c) (p : Nat → Bool) : (l.take (i + 1)).map p = (l.take i).map p ++ [p c] := by
  rw [List.take_add_one, h, List.map_append]
  rfl
theorem ok_text {f : Addr} {fd : FuncData} (F : Fun K "is_text_of" "is_text_of" s_is_text_of f fd) (Y : Bn mg) :
    FnOk P w K mg base CX0 1 f fd ["value", "characters", "longest"] (spText K) := by
  refine F.ok sc_is_text_of (fun vs H Q E h => ?_) (fun cdv A outer s H vs Q E hr h => ?_)
  · obtain ⟨v, cs, n, rfl, _⟩ := h
    rfl
  · obtain ⟨v, cs, n, rfl, kd, q⟩ := h
    refine ⟨_, (pss_cons (ps_if (PW.pt (pw_or (pt_not (pt_val (pe_callB call_isi (by rfl) Y.isinstance (by decide +kernel) (pa_cons (pv 0) (pa_cons (pe_bltn (v := .ty "str") (by rfl) Y.str (by decide +kernel) rfl) pa_nil))))) (pw_or1 (pt_not (pt_chain op_le op_le pe_int (pe_callB call_len_str (by rfl) Y.len PySem.boot_len (pa_cons (pv 0) pa_nil)) (pv 2))))))
 (pss_one (ps_ret pe_bl))
 pss_nil)
 (pss_one (ps_ret (pe_callB (cr_all rfl) (by rfl) Y.all (by decide +kernel) (pa_cons (pe_lc (own := [("character", 3)]) (g := gName 3) (tt := tYes) rfl sc_is_text_of.nd (pi_str (pv 0)) (blkOk_by (N := ["value", "characters", "longest", "character"]) (sc := defScope s_is_text_of) (by decide +kernel)) (fun _ _ _ _ _ => (pg_name (i := 3) sc_is_text_of.nd rfl (Or.inl rfl))) (fun _ _ _ _ _ => pts_nil) (fun _ _ _ _ _ => (pe_cmpR op_in_sign (pv 3) (pv 1) rfl))) pa_nil))))), ?_⟩
    cases kd with
    | oth ty no nos =>
      refine ⟨v, rfl, v, _, _, _, false, rfl, .ty "str", ty, kit_ty no, _, rfl, ?_⟩
      refine iteT (iteT ?_)
      rw [textOf_oth nos] at q
      exact q _ (Same.refl _)
    | str x hx =>
      refine ⟨_, rfl, _, _, _, _, true, rfl, .ty "str", .base (.str x), kit_ty (by decide +kernel), _, rfl, ?_⟩
      refine iteF ?_
      have e1 : textOf (.str x) cs n = (decide ((1 : Int) ≤ (x.length : Int)) && decide ((x.length : Int) ≤ n) && allIn cs x) := rfl
      refine ⟨_, rfl, _, rfl, hx, 1, _, rfl, rfl, _, rfl, ?_⟩
      refine ite2 (fun c1 => ?_) (fun c1 => ?_)
      · refine ⟨_, rfl, _, _, rfl, rfl, _, rfl, ?_⟩
        cases c2 : decide ((x.length : Int) ≤ n) with
        | false =>
          refine iteT ?_
          rw [c2, Bool.and_false, Bool.false_and] at e1
          rw [e1] at q
          exact q _ (Same.refl _)
        | true =>
          refine iteF ?_
          rw [c1, c2, Bool.true_and, Bool.true_and] at e1
          refine ⟨_, rfl, x, rfl, fun D hD => ?_⟩
          refine lc_it (walk_str (z := x)) (fun i H' => Same H H' ∧ H' D = some (.lst (((x.cps.toList.take i).map fun c => decide (c ∈ cs.cps.toList)).map V.bl)))
            ⟨same_upd hD, upd_same⟩ (fun _ _ _ _ => trivial) ?_ ?_
          · rintro i y H1 H2 hi ⟨sm, hL⟩ ⟨rfl, c, hc, rfl⟩
            refine ⟨rfl, ?_⟩
            dsimp only [tYes]
            refine iteT ?_
            refine ⟨_, rfl, _, rfl, c, cs, rfl, rfl, _, hL, ?_, same_upd2 sm hD, ?_⟩
            · rw [List.length_map, List.length_map, List.length_take]
              refine Nat.lt_of_le_of_lt (Nat.min_le_left _ _) (Nat.lt_of_lt_of_le hi ?_)
              exact hx
            · have hc' : x.cps.toList[i]? = some c := by rw [Array.getElem?_toList]; exact hc
              rw [upd_same, take_succ_all hc', List.map_append]
              rfl
          · rintro H1 ⟨sm, hL⟩
            refine ⟨D, _, rfl, SqL.of hL, ?_⟩
            have e2 : ((x.cps.toList.take x.cps.size).map fun c => decide (c ∈ cs.cps.toList)).all id = allIn cs x := by
              rw [List.take_of_length_le (by rw [Array.length_toList]; exact Nat.le_refl _), List.all_map]
              rfl
            rw [e1] at q
            show Q (.bl (((x.cps.toList.take x.cps.size).map fun c => decide (c ∈ cs.cps.toList)).all id)) H1
            rw [e2]
            exact q _ sm
      · refine ⟨_, rfl, ?_⟩
        refine iteT ?_
        have c1' : decide ((1 : Int) ≤ (x.length : Int)) = false := by
          cases z : decide ((1 : Int) ≤ (x.length : Int)) with
          | false => rfl
          | true => exact absurd z c1
        rw [c1', Bool.false_and, Bool.false_and] at e1
        rw [e1] at q
        exact q _ (Same.refl _)
structure TxtC (mg : Str → Option Value) : Prop where
  lt : ∃ t, mg "LETTERS" = some (.str LET t)
  ln : ∃ t, mg "LONGEST_NAME" = some (.int 8 t)
def spHost (K : PySem.W.Frag) : Sp := fun vs H Q _ => ∃ v : V, vs = [v] ∧ Kd K H v ∧ ∀ H', Same H H' → Q (.bl (textOf v LET 8)) H'
theorem ok_host {f : Addr} {fd : FuncData} (F : Fun K "is_host_name" "is_host_name" s_is_host_name f fd) (C : TxtC mg) (G_is_text_of : Fk P w K mg base CX0 1 "is_text_of" ["value", "characters", "longest"] (spText K)) :
    FnOk P w K mg base CX0 2 f fd ["value"] (spHost K) := by
  obtain ⟨t1, e1⟩ := C.lt
  obtain ⟨t2, e2⟩ := C.ln
  refine F.ok sc_is_host_name (fun vs H Q E h => ?_) (fun cdv A outer s H vs Q E hr h => ?_)
  · obtain ⟨v, rfl, _⟩ := h
    rfl
  · obtain ⟨v, rfl, kd, q⟩ := h
    refine ⟨_, (pss_one (ps_ret (pe_callF G_is_text_of (hr.mono (by decide)) (by rfl) pass0 (pa_cons (pv 0) (pa_cons (pe_glob (v := .str LET) (by rfl) e1 ⟨_, rfl⟩) (pa_cons (pe_glob (v := .int 8) (by rfl) e2 ⟨_, rfl⟩) pa_nil)))))), ?_⟩
    exact ⟨v, rfl, v, LET, 8, rfl, kd, q⟩
end
end My

/-! An own exception of two fields raised; a call of what a subscript gives. -/
namespace Xl
open PySem PySem.Spec PyProof.Rows L2 Gy
def spI2 (C : Addr) (f1 f2 : Str) : Sp := fun vs H Q _ => ∃ (a : Addr) (v1 v2 : V), vs = [.ref a, v1, v2] ∧ H a = some (exo a C none) ∧
  ∀ dx, H dx = none → dx ≠ a → Q .non (upd (upd (upd H dx (exd dx [(f1, v1)])) a (exo a C (some dx))) dx (exd dx [(f2, v2), (f1, v1)]))
theorem del_made2 {H : Hp} {a dx C : Addr} {f1 f2 : Str} {v1 v2 : V} (n : H a = none) (ne : dx ≠ a) :
    upd (del (upd (upd (upd (upd H a (exo a C none)) dx (exd dx [(f1, v1)])) a (exo a C (some dx))) dx (exd dx [(f2, v2), (f1, v1)])) a) dx (.xd [(f2, v2), (f1, v1)]) = upd H dx (.xd [(f2, v2), (f1, v1)]) := by
  funext b
  by_cases h1 : b = dx
  · rw [h1, upd_same, upd_same]
  · rw [upd_ne h1, upd_ne h1]
    by_cases h2 : b = a
    · rw [h2, del_same, n]
    · rw [del_ne h2, upd_ne h1, upd_ne h2, upd_ne h1, upd_ne h2]
section
variable {X : Cx} {C fI : Addr} {fd : FuncData} {f1 f2 x : Str} {e e2 : Expr} {p pos : Pos}
/-- C(e, e2), to be raised -/
def tMk2 (C : Addr) (f1 f2 : Str) (t : TA) : L2.St → Hp → XK → Prop := fun σ H Q => t σ H fun vs H1 => ∃ v1 v2, vs = [v1, v2] ∧ ∀ d, H1 d = none → Q (.ref C) (some d) (upd H1 d (.xd [(f2, v2), (f1, v1)]))
theorem pmk_x2 {t : TA} (T : XIn X.K C fI) (ty : PySem.W.typeIn X.K (.ref C) = some (.type "type")) (F : FnOk X.prog X.w X.K X.mg X.base CX0 1 fI fd ["self", f1, f2] (spI2 C f1 f2)) (hr : Room 2 X.A)
    (hb : XB X.K fd ["self", f1, f2] [] (fun us _ => us) (fun vs _ => vs)) (hg : Gl X x) (hm : X.mg x = some (.ref C)) (ha : PA X [e, e2] t)
    (hdb : (x == ("__debug__" : Str)) = false := by decide) (hst : starEach [e, e2] X.env = (false, eval e X.env) :: starEach [e2] X.env := by rfl) (hpl : (backTo pos (starEach [e2] X.env)).any (·.1) = false := by rfl) :
    PMk X (.Call (.Name x p) [e, e2] [] pos) (tMk2 C f1 f2 t) := by
  intro pins s σ H Q I h
  refine wpAny_Call_Name_kw (ld_glob I hg hm ?_ hdb)
  refine PySem.W.callWith_K (h₀ := X.base) I.ok.mod.kin T.kp (thn (ha.run pos pins s σ H _ I h) ?_) hst hpl
  rintro us s1 ⟨vs, H1, I1, r1, v1, v2, rfl, q1⟩
  refine ⟨I1.kIn, ?_⟩
  show wpAny _ _ (call (.ref C) us) _ _ _
  obtain ⟨B, nI, iI, bmB, BF, _, ii, _⟩ := T.base
  obtain ⟨nm, N', qn, bs, bm, hdct, sn, sub, ab, col, dd, k0, k1, k2, k3, k5, cl, hT⟩ := PySem.W.excInit_of I1.kIn ii
  obtain ⟨hp, g', dr, tk', os⟩ := s1
  have big : hp.objs.size ≤ hp.objs.size + 1 := Nat.le_succ _
  have na : H1 (hp.objs.size + 1) = none := I1.hok.fresh big
  have keep : ∀ b o, hp.get? b = some o → ((hp.push (PySem.W.kdv_tup us)).push (PySem.PX.excO C hp.objs.size)).get? b = some o := fun b o e =>
    Heap.get?_push_of_some _ (Heap.get?_push_of_some _ e)
  have new : ((hp.push (PySem.W.kdv_tup us)).push (PySem.PX.excO C hp.objs.size)).get? (hp.objs.size + 1) = some (PySem.PX.excO C hp.objs.size) := by heap_get
  have I2 := I1.laid (t' := tk') (a := hp.objs.size + 1) (o := exo (hp.objs.size + 1) C none) keep big (exo_ok new)
  have r2 : Vals [V.ref (hp.objs.size + 1), v1, v2] (Value.ref (hp.objs.size + 1) :: us) := .cons rfl r1
  have hq : spI2 C f1 f2 [V.ref (hp.objs.size + 1), v1, v2] (upd H1 (hp.objs.size + 1) (exo (hp.objs.size + 1) C none))
      (fun r H2 => r = .non ∧ ∃ dx, dx ≠ hp.objs.size + 1 ∧ upd H1 (hp.objs.size + 1) (exo (hp.objs.size + 1) C none) dx = none ∧
        H2 = upd (upd (upd (upd H1 (hp.objs.size + 1) (exo (hp.objs.size + 1) C none)) dx (exd dx [(f1, v1)])) (hp.objs.size + 1) (exo (hp.objs.size + 1) C (some dx))) dx (exd dx [(f2, v2), (f1, v1)])) (fun _ _ _ => False) :=
    ⟨_, v1, v2, rfl, upd_same, fun dx nd ne => ⟨rfl, dx, ne, nd, rfl⟩⟩
  have bl := hb.to ⟨_, g', dr, tk', os⟩ (Value.ref (hp.objs.size + 1)) us [] I2.kIn (by rw [← r2.length]; rfl)
  refine wpAny_call (PySem.Xg.kw_call BF hT cl (PySem.W.looks_findIn I1.kIn T.ini) (fun self => PySem.W.bind_fn I1.kIn self T.tf) ?_ (codeAny_mono (F.run _ X.stack _ _ _ _ _ _ _ (hr.make C us []) (I2.env0.make C us []) bl r2 hq) ?_))
  · rw [← r1.length, sizeLine_eq]
    show 2 ≤ 16777216
    decide
  · rintro (er | (_ | _ | _ | u)) s' z
    · exact (show False from z).elim
    · exact z.elim
    · exact z.elim
    · exact z.elim
    · obtain ⟨r, H2, os2, bare2, un2, hok2, rv, er, dx, ne, nd, e2⟩ := z
      subst er
      obtain ⟨h2, g2, d2, t2, os'⟩ := s'
      subst e2
      refine ⟨rv, mk_end (raises_own T.ex ty) I1 big keep un2 hok2 os2 bare2 ((upd_ne ne.symm).trans upd_same) upd_same ((upd_ne ne).symm.trans nd) ?_⟩
      rw [del_made2 na ne]
      exact q1 dx ((upd_ne ne).symm.trans nd)
/-- raise C(e, e2) -/
theorem ps_raise2 {W : WX} {t : TA} {rp : Pos} (hc : X.calm = true) (tk : Takes X W) (T : XIn X.K C fI) (ty : PySem.W.typeIn X.K (.ref C) = some (.type "type")) (F : FnOk X.prog X.w X.K X.mg X.base CX0 1 fI fd ["self", f1, f2] (spI2 C f1 f2)) (hr : Room 2 X.A)
    (hb : XB X.K fd ["self", f1, f2] [] (fun us _ => us) (fun vs _ => vs)) (hg : Gl X x) (hm : X.mg x = some (.ref C)) (ha : PA X [e, e2] t)
    (hdb : (x == ("__debug__" : Str)) = false := by decide) (hst : starEach [e, e2] X.env = (false, eval e X.env) :: starEach [e2] X.env := by rfl) (hpl : (backTo pos (starEach [e2] X.env)).any (·.1) = false := by rfl) :
    PS X (.Raise (some (.Call (.Name x p) [e, e2] [] pos)) none rp) (fun _ σ H => tMk2 C f1 f2 t σ H fun cls d H' => W cls d σ H') :=
  ps_raise hc tk (pmk_x2 T ty F hr hb hg hm ha hdb hst hpl)
end
end Xl
namespace My
open PySem PySem.Spec PyProof.Rows L2 Gy Xl Xs Xt
/-- a class of errors with two fields: raised -/
structure Rz2 (P : Program) (w : World) (K : PySem.W.Frag) (mg : Str → Option Value) (base : Heap) (nm f1 f2 : Str) (C : Addr) : Prop where
  gm : mg nm = some (.ref C)
  ty : PySem.W.typeIn K (.ref C) = some (.type "type")
  ex : ∃ (fI : Addr) (fd : FuncData), XIn K C fI ∧ FnOk P w K mg base CX0 1 fI fd ["self", f1, f2] (spI2 C f1 f2) ∧ XB K fd ["self", f1, f2] [] (fun us _ => us) (fun vs _ => vs)
/-- what is wanted where C(v1, v2) is raised -/
def Ro2 (E : XK) (C : Addr) (f1 f2 : Str) (v1 v2 : V) (H : Hp) : Prop := ∀ H' dx, Same H H' → H' dx = some (.xd [(f2, v2), (f1, v1)]) → E (.ref C) (some dx) H'
theorem Ro2.same {E : XK} {C : Addr} {f1 f2 : Str} {v1 v2 : V} {H H1 : Hp} (h : Ro2 E C f1 f2 v1 v2 H) (s : Same H H1) : Ro2 E C f1 f2 v1 v2 H1 := fun H' dx s1 e => h H' dx (s.trans s1) e
/-- xs[i](e, ..): one of several defs -/
def tCallIx (S : Addr → Option Sp) (tf : TE) (t : TA) : TE := fun σ H Q => tf σ H fun v H1 => ∃ f sp, v = .ref f ∧ S f = some sp ∧ t σ H1 fun vs H2 => sp vs H2 Q (fun _ _ _ => False)
theorem pe_callIx {X : Cx} {k : Nat} {S : Addr → Option Sp} {a b e : Expr} {es : List Expr} {tf : TE} {t : TA} {p pos : Pos} (A : ∀ f sp, S f = some sp → Held X.prog X.w X.K X.mg X.base k f sp) (hr : Room k X.A) (hf : PE X (.Subscript a b p) tf) (ha : PA X (e :: es) t)
    (he : starEach (e :: es) X.env = (false, eval e X.env) :: starEach es X.env := by rfl) (hpl : (backTo pos (starEach es X.env)).any (·.1) = false := by rfl) : PE X (.Call (.Subscript a b p) (e :: es) [] pos) (tCallIx S tf t) := by
  refine ⟨fun pins s σ H Q I h => ?_⟩
  rw [show eval (.Call (.Subscript a b p) (e :: es) [] pos) X.env = (do callWith pos (← eval (.Subscript a b p) X.env) [] (backTo pos (starEach (e :: es) X.env)) (backToKw pos (keywordEach [] X.env))) from rfl]
  refine wpAny_bind (thn (hf.run pins s σ H _ I h) fun u s1 ⟨v, H1, I1, r1, f, sp, ev, hS, q1⟩ => ?_)
  subst ev
  cases r1
  obtain ⟨fd, ps, F, hk, hb⟩ := (A f sp hS).ex
  refine PySem.W.callWith_K (h₀ := X.base) I.ok.mod.kin hk (thn (ha.run pos pins s1 σ _ _ I1 q1) fun us s2 ⟨vs, H2, I2, r, q⟩ => ⟨I2.kIn, ?_⟩) he hpl
  have q' : sp (vs ++ []) H2 Q (fun _ _ _ => False) := by
    rw [List.append_nil]
    exact q
  exact run_fn F hr hb .nil (fun _ _ _ _ _ _ _ z => z.elim) I2 r q'
theorem Held.of {P : Program} {w : World} {K : PySem.W.Frag} {mg : Str → Option Value} {base : Heap} {k j : Nat} {f : Addr} {nm : Str} {ps : List Str} {sp : Sp} (F : Fk P w K mg base CX0 j nm ps sp) (h : j ≤ k) (m : mg nm = some (.ref f)) : Held P w K mg base k f sp := by
  obtain ⟨g, fd, m', kp, b, G⟩ := F.ex
  rw [m] at m'
  cases m'
  exact ⟨fd, ps, G.mono h, kp, b⟩
/-- f(e, ..) in a try -/
theorem pe_callSF {X : Cx} {CX : CXT} {k : Nat} {ps : List Str} {sp : Sp} {E : L2.St → XK} {x : Str} {p pos : Pos} {e : Expr} {es : List Expr} {t : TA} (F : Fk X.prog X.w X.K X.mg X.base CX k x ps sp) (hr : Room k X.A) (hg : Gl X x) (hx : ∀ σ, PassesAt CX X σ (E σ)) (ha : PA X (e :: es) t)
    (hdb : (x == ("__debug__" : Str)) = false := by decide) (he : starEach (e :: es) X.env = (false, eval e X.env) :: starEach es X.env := by rfl)
    (hpl : (backTo pos (starEach es X.env)).any (·.1) = false := by rfl) : PE X (.Call (.Name x p) (e :: es) [] pos) (tCallSD sp [] E t) := by
  obtain ⟨f, fd, m, kp, b, G⟩ := F.ex
  exact pe_callSD G hr hg m kp b .nil hx ha hdb he hpl
/-- what is known of a class of errors that is caught -/
structure Xc (K : PySem.W.Frag) (C R : Addr) : Prop where
  x : XCl K C
  em : PySem.W.exmOne K (.ref C) (.ref C) = some true
  ki : PySem.W.kitOne K (.ref C) (.ref R) = some true
theorem Xc.xf {K : PySem.W.Frag} {C R : Addr} (h : Xc K C R) : XfC K C := ⟨h.x.ga, h.x.gg, h.x.ex, h.x.hd⟩
/-- the class of an object, as the built-in isinstance asks for it -/
structure Cg (K : PySem.W.Frag) : Prop where
  cg : PySem.W.specialIn K (.builtin "object.__class__") "__get__" = some (some (.builtin "getset_descriptor.__get__"))
  ct : PySem.W.takesIn K (.builtin "object.__class__") = some true
end My

/-! Defs that are called with keywords. -/
namespace My
open PySem PySem.Spec PyProof.Rows L2 Gy Xl Xs Xt
/-- a def of the top: n values by position, keywords ks; gV puts them into the parameters' order -/
structure Fw (P : Program) (w : World) (K : PySem.W.Frag) (mg : Str → Option Value) (base : Heap) (CX : CXT) (k : Nat) (nm : Str) (ps : List Str) (n : Nat) (ks : List Str) (gV : List V → List V → List V) (sp : Sp) : Prop where
  ex : ∃ (f : Addr) (fd : FuncData) (g : List Value → List Value → List Value), mg nm = some (.ref f) ∧ PySem.W.keepIn K (.ref f) = true ∧ KBn K fd ps n ks g gV ∧ FnOk P w K mg base CX k f fd ps sp
section
variable {X : Cx} {CX : CXT} {k n : Nat} {ps ks : List Str} {sp : Sp} {E : XK} {x : Str} {p pos : Pos} {e : Expr} {es : List Expr} {kws : List Keyword} {t tk : TA} {gV : List V → List V → List V}
theorem pe_callNF (F : Fw X.prog X.w X.K X.mg X.base CX k x ps n ks gV sp) (hr : Room k X.A) (hg : Gl X x) (hx : Passes CX X E) (ha : PA X (e :: es) t) (hkw : PK X kws tk)
    (hall : (backToKw pos (keywordEach kws X.env)).all (·.1.isSome) = true := by rfl) (hks : (backToKw pos (keywordEach kws X.env)).filterMap (·.1) = ks := by rfl) (hdb : (x == ("__debug__" : Str)) = false := by decide)
    (he : starEach (e :: es) X.env = (false, eval e X.env) :: starEach es X.env := by rfl) (hpl : ((backTo pos (starEach (e :: es) X.env)).any (·.1) || (backToKw pos (keywordEach kws X.env)).any (·.1.isNone)) = false := by rfl) :
    PE X (.Call (.Name x p) (e :: es) kws pos) (tCallN n ks.length sp gV E t tk) := by
  obtain ⟨f, fd, g, m, kp, b, G⟩ := F.ex
  exact pe_callN G hr hg m kp b hx ha hkw hall hks hdb he hpl
/-- f(k = v, ..) -/
def tCall0 (m : Nat) (sp : Sp) (gV : List V → List V → List V) (E : XK) (tk : TA) : TE := fun σ H Q => tk σ H fun zs H2 => zs.length = m ∧ sp (gV [] zs) H2 Q E
theorem pe_call0F (F : Fw X.prog X.w X.K X.mg X.base CX k x ps 0 ks gV sp) (hr : Room k X.A) (hg : Gl X x) (hx : Passes CX X E) (hkw : PK X kws tk)
    (hall : (backToKw pos (keywordEach kws X.env)).all (·.1.isSome) = true := by rfl) (hks : (backToKw pos (keywordEach kws X.env)).filterMap (·.1) = ks := by rfl) (hdb : (x == ("__debug__" : Str)) = false := by decide)
    (hpl : ((backTo pos (starEach [] X.env)).any (·.1) || (backToKw pos (keywordEach kws X.env)).any (·.1.isNone)) = false := by rfl) :
    PE X (.Call (.Name x p) [] kws pos) (tCall0 ks.length sp gV E tk) := by
  obtain ⟨f, fd, g, m, kp, b, G⟩ := F.ex
  constructor
  intro pins s σ H Q I h
  refine wpAny_Call_Name_kw (ld_glob I hg m ?_ hdb)
  refine PySem.W.callWith_KW0 (h₀ := X.base) I.ok.mod.kin kp hall (thn (hkw.run pos pins s σ H _ I h) ?_) hpl
  rintro ws s2 ⟨zs, H2, I2, rz, l2, q2⟩
  rw [hks]
  exact ⟨I2.kIn, run_fnN (us := []) G hr b hx I2 .nil rz rfl l2 q2⟩
end
theorem vals_back : ∀ {xs : List V} {us : List Value}, Vals xs us → Vals xs.reverse us.reverse
  | _, _, .nil => .nil
  | _, _, .cons h t => by
    rw [List.reverse_cons, List.reverse_cons]
    exact (vals_back t).append (.cons h .nil)
/-- the keywords in the parameters' order, or turned about -/
theorem kbn_fwd {K : PySem.W.Frag} {x qual : Str} {st : Stmt} {f : Addr} {fd : FuncData} {ps ks : List Str} {n : Nat} (F : Fun K x qual st f fd)
    (h : ∀ (kV doc pm : Value) (an : Option Addr) (cdv ct : Value) (us ws : List Value), us.length = n → ws.length = ks.length → bindArgs (PySem.W.fnOf x qual (defArgs st) (defBody st) (defScope st) .none kV doc pm an cdv ct) ⟨us, ks.zip ws⟩ = pure (ps.zip (us ++ ws))) :
    KBn K fd ps n ks (fun us ws => us ++ ws) (fun vs zs => vs ++ zs) := by
  obtain ⟨oc, od, kV, doc, pm, an, cdv, ct, osl, rfl, lk, hcd⟩ := F.ex
  exact ⟨fun s us ws _ h1 h2 => .of_eq (h kV doc pm an cdv ct us ws h1 h2), fun r z => r.append z⟩
theorem kbn_back {K : PySem.W.Frag} {x qual : Str} {st : Stmt} {f : Addr} {fd : FuncData} {ps ks : List Str} {n : Nat} (F : Fun K x qual st f fd)
    (h : ∀ (kV doc pm : Value) (an : Option Addr) (cdv ct : Value) (us ws : List Value), us.length = n → ws.length = ks.length → bindArgs (PySem.W.fnOf x qual (defArgs st) (defBody st) (defScope st) .none kV doc pm an cdv ct) ⟨us, ks.zip ws⟩ = pure (ps.zip (us ++ ws.reverse))) :
    KBn K fd ps n ks (fun us ws => us ++ ws.reverse) (fun vs zs => vs ++ zs.reverse) := by
  obtain ⟨oc, od, kV, doc, pm, an, cdv, ct, osl, rfl, lk, hcd⟩ := F.ex
  exact ⟨fun s us ws _ h1 h2 => .of_eq (h kV doc pm an cdv ct us ws h1 h2), fun r z => r.append (vals_back z)⟩
end My

namespace My
open PySem PySem.Spec PyProof.Rows L2 Gy Xl Xs Xt
/-! ### what a relink is, over data -/
mutual
/-- few and short parts -/
def sml : PyData → Bool
  | .str x => decide (x.length ≤ 2000)
  | .int i => decide (i.natAbs < 1000)
  | .list ds => decide (ds.length ≤ 1000) && smls ds
  | .tuple ds => decide (ds.length ≤ 1000) && smls ds
  | .dict kvs => kvs.isEmpty
  | .none => true
  | .bool _ => true
def smls : List PyData → Bool
  | [] => true
  | d :: ds => sml d && smls ds
end
theorem smls_mem : ∀ {ds : List PyData} {d : PyData}, smls ds = true → d ∈ ds → sml d = true
  | e :: ds, d, h, m => by
    have h2 : sml e = true ∧ smls ds = true := by simpa only [smls, Bool.and_eq_true] using h
    rcases List.mem_cons.mp m with rfl | m
    · exact h2.1
    · exact smls_mem h2.2 m
def isHost : PyData → Bool
  | .str x => decide ((1 : Int) ≤ (x.length : Int)) && decide ((x.length : Int) ≤ 8) && allIn LET x
  | _ => false
def txts : List PyData → List Str
  | [] => []
  | .str x :: ds => x :: txts ds
  | _ :: ds => txts ds
def isPath : PyData → Bool
  | .tuple ds => decide (3 ≤ ds.length) && (ds.all isHost && decide ((txts ds).Nodup))
  | _ => false
/-- a whole number from 0 on, below another -/
def isIdx (n : Int) : PyData → Bool
  | .int i => decide (0 ≤ i) && decide (i < n)
  | _ => false
theorem isPath_t (ds : List PyData) : isPath (.tuple ds) = (decide (3 ≤ ds.length) && (ds.all isHost && decide ((txts ds).Nodup))) := rfl
theorem isIdx_i (n i : Int) : isIdx n (.int i) = (decide (0 ≤ i) && decide (i < n)) := rfl
def isRel : PyData → Bool
  | .tuple [.tuple ds, c] => isPath (.tuple ds) && isIdx ((ds.length : Int) - 1) c
  | _ => false
theorem txts_all : ∀ {ds : List PyData}, ds.all isHost = true → ds = (txts ds).map PyData.str
  | [], _ => rfl
  | d :: ds, h => by
    have h2 : isHost d = true ∧ ds.all isHost = true := by simpa only [List.all_cons, Bool.and_eq_true] using h
    cases d with
    | str x =>
      show PyData.str x :: ds = PyData.str x :: (txts ds).map PyData.str
      rw [← txts_all h2.2]
    | _ => cases h2.1
section
variable {P : Program} {w : World} {K : PySem.W.Frag} {mg : Str → Option Value} {base : Heap} {H : Hp}
theorem Dns.len : ∀ {vs : List V} {ds : List PyData}, Dns K H vs ds → vs.length = ds.length
  | _, _, .nil => rfl
  | _, _, .cons h t => by rw [List.length_cons, List.length_cons, Dns.len t]
theorem Dns.get : ∀ {vs : List V} {ds : List PyData}, Dns K H vs ds → ∀ {i : Nat} {v : V}, vs[i]? = some v → ∃ d, ds[i]? = some d ∧ Dn K H v d
  | _, _, .nil, i, v, e => by simp at e
  | _, _, .cons h t, 0, v, e => by
    simp at e
    subst e
    exact ⟨_, rfl, h⟩
  | _, _, .cons h t, i + 1, v, e => by
    simp only [List.getElem?_cons_succ] at e ⊢
    exact Dns.get t e
theorem Dns.txts : ∀ {vs : List V} {xs : List Str}, Dns K H vs (xs.map PyData.str) → vs = xs.map V.str
  | _, [], .nil => rfl
  | _, x :: xs, .cons h t => by
    cases h
    rw [Dns.txts t]
    rfl
theorem kd_dn {v : V} {d : PyData} (h : Dn K H v d) (s : sml d = true) : Kd K H v := by
  cases h with
  | non => exact .oth (.base .non) (by decide +kernel) (fun x z => nomatch z)
  | bl b => exact .oth (.base (.bl b)) (by decide +kernel) (fun x z => nomatch z)
  | int i => exact .oth (.base (.int i)) (by decide +kernel) (fun x z => nomatch z)
  | str x =>
    have : x.length ≤ 2000 := by simpa only [sml, decide_eq_true_eq] using s
    exact .str x (le200 (by omega))
  | lst e _ => exact .oth (.base (.lst e)) (by decide +kernel) (fun x z => nomatch z)
  | tup e _ => exact .oth e.ty (by decide +kernel) (fun x z => nomatch z)
  | dic e => exact .oth (.base (.dK e)) (by decide +kernel) (fun x z => nomatch z)
theorem host_dn {v : V} {d : PyData} (h : Dn K H v d) : textOf v LET 8 = isHost d := by
  cases h <;> rfl
/-- the kind of a value, and whether it is a tuple -/
theorem tup_or {v : V} {d : PyData} (h : Dn K H v d) : (∃ a xs ds, v = .ref a ∧ d = .tuple ds ∧ Tz H a xs ∧ Dns K H xs ds) ∨ ((∀ ds, d ≠ .tuple ds) ∧ ∃ t, TyX K H v (.type t) ∧ kitB t "tuple" = some false) := by
  cases h with
  | non => exact .inr ⟨(fun _ z => nomatch z), _, .base .non, by decide +kernel⟩
  | bl b => exact .inr ⟨(fun _ z => nomatch z), _, .base (.bl b), by decide +kernel⟩
  | int i => exact .inr ⟨(fun _ z => nomatch z), _, .base (.int i), by decide +kernel⟩
  | str x => exact .inr ⟨(fun _ z => nomatch z), _, .base (.str x), by decide +kernel⟩
  | lst e _ => exact .inr ⟨(fun _ z => nomatch z), _, .base (.lst e), by decide +kernel⟩
  | tup e t => exact .inl ⟨_, _, _, rfl, rfl, e, t⟩
  | dic e => exact .inr ⟨(fun _ z => nomatch z), _, .base (.dK e), by decide +kernel⟩
/-- whether it is a whole number, or True, False -/
theorem int_or {v : V} {d : PyData} (h : Dn K H v d) : (∃ i, v = .int i ∧ d = .int i) ∨ (∃ b, v = .bl b ∧ d = .bool b) ∨ ((∀ i, d ≠ .int i) ∧ ∃ t, TyX K H v (.type t) ∧ kitB t "int" = some false) := by
  cases h with
  | non => exact .inr (.inr ⟨(fun _ z => nomatch z), _, .base .non, by decide +kernel⟩)
  | bl b => exact .inr (.inl ⟨b, rfl, rfl⟩)
  | int i => exact .inl ⟨i, rfl, rfl⟩
  | str x => exact .inr (.inr ⟨(fun _ z => nomatch z), _, .base (.str x), by decide +kernel⟩)
  | lst e _ => exact .inr (.inr ⟨(fun _ z => nomatch z), _, .base (.lst e), by decide +kernel⟩)
  | tup e _ => exact .inr (.inr ⟨(fun _ z => nomatch z), _, e.ty, by decide +kernel⟩)
  | dic e => exact .inr (.inr ⟨(fun _ z => nomatch z), _, .base (.dK e), by decide +kernel⟩)
end
/-- a class of errors with one field: raised -/
structure Rz (P : Program) (w : World) (K : PySem.W.Frag) (mg : Str → Option Value) (base : Heap) (nm f : Str) (C : Addr) : Prop where
  gm : mg nm = some (.ref C)
  ty : PySem.W.typeIn K (.ref C) = some (.type "type")
  ex : ∃ (fI : Addr) (fd : FuncData), XIn K C fI ∧ FnOk P w K mg base CX0 1 fI fd ["self", f] (spI1 C f) ∧ XB K fd ["self", f] [] (fun us _ => us) (fun vs _ => vs)
/-- what is wanted where C(v) is raised -/
def Ro (E : XK) (C : Addr) (f : Str) (v : V) (H : Hp) : Prop := ∀ H' dx, Same H H' → H' dx = some (.xd [(f, v)]) → E (.ref C) (some dx) H'
theorem Ro.same {E : XK} {C : Addr} {f : Str} {v : V} {H H1 : Hp} (h : Ro E C f v H) (s : Same H H1) : Ro E C f v H1 := fun H' dx s1 e => h H' dx (s.trans s1) e
def Fits (d : PyData) : Prop := d.showable = true ∧ d.depth ≤ 60 ∧ d.shown.length ≤ sizeLine
section
variable {P : Program} {w : World} {K : PySem.W.Frag} {mg : Str → Option Value} {base : Heap} {H : Hp}
theorem _root_.Xt.Tz.but {H H' : Hp} {a r : Addr} {xs : List V} (h : Tz H a xs) (R : Rng H r) (b : But r H H') : Tz H' a xs := by
  obtain ⟨o, e, c⟩ := h
  refine ⟨o, b a _ (fun z => ?_) e, c⟩
  obtain ⟨x, y, e2, _⟩ := R
  rw [z, e2] at e
  cases e
theorem dns_strs {K : PySem.W.Frag} {H : Hp} : ∀ xs : List Str, Dns K H (xs.map V.str) (xs.map PyData.str)
  | [] => .nil
  | x :: xs => .cons (.str x) (dns_strs xs)
end
/-- len(xs), a list or a tuple -/
def rLenS (K : PySem.W.Frag) : List V → Hp → VK → Prop := fun xs H Q => ∃ p ys, xs = [.ref p] ∧ (SqL K H p ys ∨ SqT K H p ys) ∧ Q (.int ys.length) H
end My

namespace My
open PySem PySem.Spec PyProof.Rows L2 Gy Xl Xs Xt
/-! ### hosts and their neighbours, as they stand in a dict of lists; what can be reached -/
def gkv (ns : List Str) (ad : Str → Addr) : List (Key × V) := ns.map fun x => (Sum.inr x, .ref (ad x))
theorem gkv_val (ns : List Str) (ad : Str → Addr) (x : Str) : valV (gkv ns ad) (.inr x) = if x ∈ ns then some (.ref (ad x)) else none := by
  unfold gkv valV
  induction ns with
  | nil => rfl
  | cons y ns ih =>
    rw [List.map_cons, List.find?_cons]
    by_cases e : y = x
    · subst e
      rw [decide_eq_true rfl, if_pos List.mem_cons_self]
      rfl
    · rw [decide_eq_false (show ¬ (Sum.inr y : Key) = .inr x from fun z => e (Sum.inr.inj z))]
      dsimp only
      rw [ih]
      by_cases m : x ∈ ns
      · rw [if_pos m, if_pos (List.mem_cons_of_mem _ m)]
      · rw [if_neg m, if_neg fun z => (List.mem_cons.mp z).elim (fun w => e w.symm) m]
/-- the dict of the neighbours: hosts ns, the neighbours f, their lists at ad -/
structure Gr (H : Hp) (La : Addr) (ns : List Str) (f : Str → List Str) (ad : Str → Addr) : Prop where
  at_ : H La = some (.dK (gkv ns ad))
  nb : ∀ x ∈ ns, H (ad x) = some (.lst ((f x).map V.str))
  inj : ∀ x ∈ ns, ∀ y ∈ ns, ad x = ad y → x = y
  nd : ns.Nodup
theorem Gr.same {H H' : Hp} {La : Addr} {ns : List Str} {f : Str → List Str} {ad : Str → Addr} (g : Gr H La ns f ad) (s : Same H H') : Gr H' La ns f ad := ⟨s _ _ g.at_, fun x hx => s _ _ (g.nb x hx), g.inj, g.nd⟩
/-- what is reached from the goal -/
structure Span (f : Str → List Str) (goal : Str) (ks : List Str) : Prop where
  st : goal ∈ ks
  cl : ∀ x ∈ ks, ∀ y ∈ f x, y ∈ ks
  lo : ∀ A : Str → Prop, A goal → (∀ x y, A x → y ∈ f x → A y) → ∀ x ∈ ks, A x
/-- the hosts that are known -/
def ks (m : List (Str × Str)) : List Str := m.map Prod.fst
theorem ks_cons (p : Str × Str) (m : List (Str × Str)) : ks (p :: m) = p.1 :: ks m := rfl
theorem ks_len (m : List (Str × Str)) : (ks m).length = m.length := List.length_map ..
theorem ks_snoc (m : List (Str × Str)) (x y : Str) : ks (m ++ [(x, y)]) = ks m ++ [x] := by
  unfold ks
  rw [List.map_append]
  rfl
def mkv (m : List (Str × Str)) : List (Key × V) := m.map fun p => (Sum.inr p.1, .str p.2)
theorem mkv_val (m : List (Str × Str)) (x : Str) : (valV (mkv m) (.inr x)).isSome = decide (x ∈ ks m) := by
  unfold mkv valV
  induction m with
  | nil => rfl
  | cons p m ih =>
    rw [List.map_cons, List.find?_cons, ks_cons]
    by_cases e : p.1 = x
    · rw [decide_eq_true (show (Sum.inr p.1 : Key) = .inr x by rw [e]), decide_eq_true (by rw [e]; exact List.mem_cons_self)]
      rfl
    · rw [decide_eq_false (show ¬ (Sum.inr p.1 : Key) = .inr x from fun z => e (Sum.inr.inj z))]
      dsimp only
      rw [ih]
      congr 1
      rw [eq_iff_iff, List.mem_cons]
      exact ⟨.inr, fun z => z.resolve_left fun w => e w.symm⟩
theorem mkv_put {m : List (Str × Str)} {x y : Str} (h : x ∉ ks m) : putK (mkv m) (.inr x) (.str y) = mkv (m ++ [(x, y)]) := by
  rw [putK_new]
  · unfold mkv
    rw [List.map_append]
    rfl
  · have z := mkv_val m x
    rw [decide_eq_false h] at z
    exact Option.isNone_iff_eq_none.mp (by rw [Option.isNone_iff_eq_none, ← Option.not_isSome_iff_eq_none, z]; decide)
theorem sub_len {α : Type} [BEq α] [LawfulBEq α] {l m : List α} (nd : l.Nodup) (h : ∀ x ∈ l, x ∈ m) : l.length ≤ m.length := len_le_of_sub nd h
/-- each entry behind the first stands behind that of the next host on its way -/
structure Tow (f : Str → List Str) (goal : Str) (m : List (Str × Str)) : Prop where
  nd : (ks m).Nodup
  hd : m[0]? = some (goal, goal)
  st : ∀ i x y, m[i]? = some (x, y) → 0 < i → ∃ j, j < i ∧ (∃ z, m[j]? = some (y, z)) ∧ x ∈ f y
theorem Tow.snoc {f : Str → List Str} {goal z y : Str} {m : List (Str × Str)} (t : Tow f goal m) (hy : y ∈ ks m) (hz : z ∉ ks m) (h : z ∈ f y) : Tow f goal (m ++ [(z, y)]) := by
  have l0 : 0 < m.length := (List.getElem?_eq_some_iff.mp t.hd).1
  refine ⟨?_, by rw [List.getElem?_append_left l0]; exact t.hd, fun i a b hi i0 => ?_⟩
  · rw [ks_snoc]
    exact nodup_snoc t.nd hz
  · by_cases c : i < m.length
    · rw [List.getElem?_append_left c] at hi
      obtain ⟨j, h1, ⟨u, h2⟩, h3⟩ := t.st i a b hi i0
      exact ⟨j, h1, ⟨u, by rw [List.getElem?_append_left (by omega)]; exact h2⟩, h3⟩
    · rw [List.getElem?_append_right (by omega)] at hi
      have hi' : i = m.length := by
        have := (List.getElem?_eq_some_iff.mp hi).1
        rw [List.length_singleton] at this
        omega
      rw [hi', Nat.sub_self] at hi
      cases hi
      obtain ⟨⟨u, v⟩, hu, rfl⟩ := List.mem_map.mp hy
      obtain ⟨j, hj, e⟩ := List.getElem_of_mem hu
      exact ⟨j, by omega, ⟨v, by rw [List.getElem?_append_left hj, List.getElem?_eq_getElem hj, e]⟩, h⟩
section
variable {P : Program} {w : World} {K : PySem.W.Frag} {mg : Str → Option Value} {base : Heap} {H : Hp}
/-- the loop's word: m is what is known, wt what waits -/
structure Lp (H H' : Hp) (ns : List Str) (f : Str → List Str) (goal : Str) (D W : Addr) (m : List (Str × Str)) (wt : List Str) : Prop where
  sm : Same H H'
  hD : H' D = some (.dK (mkv m))
  hW : H' W = some (.lst (wt.map V.str))
  nd : (ks m).Nodup
  sub : ∀ x ∈ ks m, x ∈ ns
  st : goal ∈ ks m
  ws : ∀ x ∈ wt, x ∈ ks m
  lo : ∀ A : Str → Prop, A goal → (∀ x y, A x → y ∈ f x → A y) → ∀ x ∈ ks m, A x
  wl : wt.length ≤ m.length
  tw : Tow f goal m
def spSt : Sp := fun vs H Q _ => ∃ (La : Addr) (goal : Str) (ns : List Str) (f : Str → List Str) (ad : Str → Addr), vs = [.ref La, .str goal] ∧ Gr H La ns f ad ∧ goal ∈ ns ∧ (∀ x ∈ ns, ∀ y ∈ f x, y ∈ ns) ∧ ns.length ≤ 1000 ∧
  ∀ H' D (m : List (Str × Str)), Same H H' → H D = none → H' D = some (.dK (mkv m)) → Span f goal (ks m) → Tow f goal m → Q (.ref D) H'
theorem ok_st {f0 : Addr} {fd : FuncData} (F : Fun K "steps_towards" "steps_towards" s_steps_towards f0 fd) : FnOk P w K mg base CX0 1 f0 fd ["linked", "goal"] spSt := by
  refine F.ok sc_steps_towards (fun vs H Q E h => ?_) (fun cdv A outer s H vs Q E hr h => ?_)
  · obtain ⟨La, goal, ns, f, ad, rfl, _⟩ := h
    rfl
  · obtain ⟨La, goal, ns, f, ad, rfl, g, hg, cl, l1, q⟩ := h
    have hu1 := Nat.lt_of_le_of_lt (Nat.add_le_add_left (show 1 ≤ 64 by decide) _) hr.units
    refine ⟨_, pss_cons (ps_set (i := 2) sc_steps_towards.nd rfl (.inl rfl) (pe_disp (pps_cons (pv 1) (pv 1) pps_nil) (by rfl) (by rfl) (fun z => by cases z) (by decide)))
      (pss_cons (ps_set (i := 3) sc_steps_towards.nd rfl (.inl rfl) (pe_lst (pa_cons (pv 1) pa_nil)))
      (pss_cons (ps_while PassesOwn.never (pt_truth (pv 3) (by intro _; rfl))
        (pss_cons (ps_set (i := 4) sc_steps_towards.nd rfl (.inl rfl) (pe_bm0 PySem.F.plainAttrs_list PySem.F.slot_list_pop PySem.F.type_list_pop mt_pop (pv 3)))
        (pss_one (ps_for PassesOwn.never rfl (pi_list (pe_dget hu1 (pv 0) (pv 4) (fun _ _ => rfl))) (pg_name (i := 5) sc_steps_towards.nd rfl (Or.inl rfl))
          (pss_one (ps_if (pt_cmp (pc_dnotin hu1 (pv 5) (pv 2)))
            (pss_cons (ps_dput hu1 (pv 2) (pv 5) (pv 4) rfl)
            (pss_one (ps_expr (pe_bm PySem.F.plainAttrs_list PySem.F.slot_list_append PySem.F.type_list_append mt_append (pv 3) (pa_cons (pv 5) pa_nil))))) pss_nil))))))
      (pss_one (ps_ret (pv 2))))), ?_⟩
    refine fun D nD => ?_
    refine ⟨_, rfl, _, rfl, upd_same, [(.inr goal, .str goal)], rfl, (by show 1 ≤ 15; decide), ?_⟩
    have e1 : mergeK [] [((.inr goal : Key), V.str goal)] = mkv [(goal, goal)] := rfl
    rw [e1]
    generalize hg1 : upd (upd H D _) D _ = H1
    have s1 : Same H H1 := by rw [← hg1]; exact same_upd2 (same_upd nD) nD
    have g1 : H1 D = some (.dK (mkv [(goal, goal)])) := by rw [← hg1]; exact upd_same
    clear hg1
    refine ⟨_, rfl, (by show 1 ≤ sizeLine; decide), fun W nW => ?_⟩
    have nDW : D ≠ W := ne_of_none g1 nW
    have nW0 : H W = none := by
      cases z : H W with
      | none => rfl
      | some o => rw [s1 _ _ z] at nW; cases nW
    generalize hg2 : upd _ W _ = H2
    have s2 : Same H1 H2 := by rw [← hg2]; exact same_upd nW
    have g2 : H2 W = some (.lst (([goal] : List Str).map V.str)) := by rw [← hg2]; exact upd_same
    clear hg2
    have L0 : Lp H H2 ns f goal D W [(goal, goal)] [goal] := ⟨s1.trans s2, s2 _ _ g1, g2, List.nodup_cons.mpr ⟨(fun z => nomatch z), List.nodup_nil⟩, (fun x hx => by rw [List.mem_singleton.mp hx]; exact hg), List.mem_cons_self, fun x hx => hx, (fun A a _ x hx => by rw [List.mem_singleton.mp hx]; exact a), Nat.le_refl _, ⟨List.nodup_cons.mpr ⟨(fun z => nomatch z), List.nodup_nil⟩, rfl, fun i x y hi i0 => by rw [List.getElem?_eq_none (by rw [List.length_singleton]; omega)] at hi; cases hi⟩⟩
    refine ⟨fun μ σ H' => ∃ (a4 a5 : Option V) (m : List (Str × Str)) (wt : List Str), σ = [some (.ref La), some (.str goal), some (.ref D), some (.ref W), a4, a5] ∧ Lp H H' ns f goal D W m wt ∧ (∀ x ∈ ks m, x ∉ wt → ∀ y ∈ f x, y ∈ ks m) ∧ μ = 2 * (ns.length - m.length) + wt.length, ⟨_, none, none, [(goal, goal)], [goal], rfl, L0, (fun x hx nx => absurd hx nx), rfl⟩, ?_⟩
    rintro μ σ H3 ⟨a4, a5, m, wt, rfl, L, cp, rfl⟩
    refine ⟨_, rfl, !(wt.map V.str).isEmpty, .inl ⟨_, SqL.of L.hW, rfl⟩, ?_⟩
    cases hw : wt with
    | nil =>
      subst hw
      refine iteF ?_
      exact ⟨_, rfl, q _ D m L.sm nD L.hD ⟨L.st, fun x hx => cp x hx (fun z => nomatch z), L.lo⟩ L.tw⟩
    | cons w0 wr =>
      have ne : wt ≠ [] := by rw [hw]; exact fun z => nomatch z
      rw [← hw]
      clear hw w0 wr
      have el := List.dropLast_concat_getLast ne
      generalize wt.dropLast = wi at el
      generalize wt.getLast ne = hh at el
      subst el
      rw [show (!((wi ++ [hh]).map V.str).isEmpty) = true by rw [List.map_append]; cases wi <;> rfl]
      refine iteT ?_
      have hk := L.ws hh (List.mem_append_right _ List.mem_cons_self)
      have hn := L.sub hh hk
      have ml := sub_len L.nd L.sub
      rw [ks_len] at ml
      refine ⟨fun σ' H' => ∃ (a4 a5 : Option V) (m' : List (Str × Str)) (wt' : List Str), σ' = [some (.ref La), some (.str goal), some (.ref D), some (.ref W), a4, a5] ∧ Lp H H' ns f goal D W m' wt' ∧ (∀ x ∈ ks m', x ∉ wt' → ∀ y ∈ f x, y ∈ ks m') ∧ 2 * (ns.length - m'.length) + wt'.length < 2 * (ns.length - m.length) + (wi ++ [hh]).length, ?_, ?_⟩
      · rintro σ' H' ⟨b4, b5, m', wt', e, L', cp', lt⟩
        exact ⟨_, lt, b4, b5, m', wt', e, L', cp', rfl⟩
      refine ⟨_, rfl, .inl ⟨rfl, _, SqL.of L.hW⟩, W, _, .str hh, rfl, rfl, L.hW, (by rw [List.map_append, List.length_append]; simp), ?_⟩
      rw [List.map_append, List.map_singleton, List.dropLast_concat]
      generalize hg3 : upd H3 W _ = H4
      have L4 : Lp H H4 ns f goal D W m wi := by
        rw [← hg3]
        refine ⟨fun b o e => ?_, (by rw [upd_ne nDW]; exact L.hD), upd_same, L.nd, L.sub, L.st, fun x hx => L.ws x (List.mem_append_left _ hx), L.lo, (by have := L.wl; rw [List.length_append] at this; omega), L.tw⟩
        rw [upd_ne (ne_of_none e nW0)]
        exact L.sm _ _ e
      clear hg3
      have cp4 : ∀ x ∈ ks m, x ∉ wi → x ≠ hh → ∀ y ∈ f x, y ∈ ks m := fun x hx n1 n2 => cp x hx fun z => (List.mem_append.mp z).elim n1 fun z => n2 (List.mem_singleton.mp z)
      have gd := DGet.k (k := Sum.inr hh) (L4.sm _ _ g.at_)
      rw [gkv_val, if_pos hn] at gd
      have hL4 := L4.sm _ _ (g.nb hh hn)
      refine ⟨_, rfl, _, rfl, La, _, rfl, gd, ad hh, rfl, ⟨_, SqL.of hL4⟩, ?_⟩
      refine for_it (walk_list (K := K) (a := ad hh) (xs := (f hh).map V.str)) (fun i σ H' => ∃ (a5 : Option V) (m' : List (Str × Str)) (wt' : List Str), σ = [some (.ref La), some (.str goal), some (.ref D), some (.ref W), some (.str hh), a5] ∧ Lp H H' ns f goal D W m' wt' ∧ (∀ x ∈ ks m, x ∈ ks m') ∧ (∀ x ∈ ks m', x ∉ wt' → x ≠ hh → ∀ y ∈ f x, y ∈ ks m') ∧ (∀ y ∈ (f hh).take i, y ∈ ks m') ∧ 2 * (ns.length - m'.length) + wt'.length ≤ 2 * (ns.length - m.length) + wi.length)
        ⟨_, m, wi, rfl, L4, (fun x hx => hx), cp4, (fun y hy => by rw [List.take_zero] at hy; cases hy), Nat.le_refl _⟩ (fun i σ' H' _ h => by obtain ⟨_, _, _, _, L', _⟩ := h; exact SqL.of (L'.sm _ _ (g.nb hh hn))) ?_ ?_
      · rintro i y σ' H5 H6 hi ⟨b5, m', wt', rfl, L5, sub5, cp5, tk5, le5⟩ ⟨rfl, hy⟩
        rw [List.getElem?_map] at hy
        obtain ⟨z, hz, rfl⟩ := Option.map_eq_some_iff.mp hy
        have zn : z ∈ ns := cl hh hn z (List.mem_of_getElem? hz)
        have ml5 := sub_len L5.nd L5.sub
        rw [ks_len] at ml5
        have gd5 := DGet.k (k := Sum.inr z) L5.hD
        refine ⟨_, rfl, _, rfl, D, _, rfl, gd5, _, rfl, ?_⟩
        rw [mkv_val]
        by_cases hm : z ∈ ks m'
        · rw [decide_eq_true hm]
          refine iteF ?_
          refine ⟨_, m', wt', rfl, L5, sub5, cp5, fun y hy => ?_, le5⟩
          rw [List.take_add_one, hz, List.mem_append] at hy
          rcases hy with hy | hy
          · exact tk5 y hy
          · rw [List.mem_singleton.mp (show y ∈ [z] from hy)]
            exact hm
        · rw [decide_eq_false hm]
          refine iteT ?_
          have lt : m'.length < ns.length := by
            have nd' : (z :: ks m').Nodup := List.nodup_cons.mpr ⟨hm, L5.nd⟩
            have := sub_len nd' (fun x hx => (List.mem_cons.mp hx).elim (fun e => e ▸ zn) (L5.sub x))
            rw [List.length_cons, ks_len] at this
            exact this
          refine ⟨_, rfl, _, rfl, _, rfl, D, _, rfl, DPut.k (k := Sum.inr z) L5.hD (by unfold mkv; rw [List.length_map]; exact small200 (by omega)), ?_⟩
          rw [mkv_put hm]
          generalize hg5 : upd H6 D _ = H7
          have hD7 : H7 D = some (.dK (mkv (m' ++ [(z, hh)]))) := by rw [← hg5]; exact upd_same
          have hW7 : H7 W = some (.lst (wt'.map V.str)) := by rw [← hg5, upd_ne nDW.symm]; exact L5.hW
          have s7 : Same H H7 := by
            rw [← hg5]
            exact fun b o e => by
              rw [upd_ne (ne_of_none e nD)]
              exact L5.sm _ _ e
          clear hg5
          have wl : wt'.length ≤ 100000 := by have := L5.wl; omega
          refine ⟨_, rfl, .inl ⟨rfl, _, SqL.of hW7⟩, _, rfl, W, _, _, rfl, rfl, hW7, (by rw [List.length_map]; exact Nat.lt_of_le_of_lt wl (by decide)), ?_⟩
          have L8 : Lp H (upd H7 W (.lst (wt'.map V.str ++ [V.str z]))) ns f goal D W (m' ++ [(z, hh)]) (wt' ++ [z]) := by
            have ek : ks (m' ++ [(z, hh)]) = ks m' ++ [z] := ks_snoc _ _ _
            refine ⟨fun b o e => ?_, (by rw [upd_ne nDW]; exact hD7), (by rw [upd_same, List.map_append]; rfl), ?_, ?_, ?_, ?_, ?_, (by rw [List.length_append, List.length_append]; exact Nat.succ_le_succ L5.wl), L5.tw.snoc (sub5 hh hk) hm (List.mem_of_getElem? hz)⟩
            · rw [upd_ne (ne_of_none e nW0)]
              exact s7 _ _ e
            · rw [ek, List.nodup_append]
              exact ⟨L5.nd, List.nodup_cons.mpr ⟨(fun w => nomatch w), List.nodup_nil⟩, fun a ha b hb => by rw [List.mem_singleton.mp hb]; exact fun w => hm (w ▸ ha)⟩
            · rw [ek]
              exact fun x hx => (List.mem_append.mp hx).elim (L5.sub x) fun e => by rw [List.mem_singleton.mp e]; exact zn
            · rw [ek]
              exact List.mem_append_left _ L5.st
            · rw [ek]
              exact fun x hx => (List.mem_append.mp hx).elim (fun e => List.mem_append_left _ (L5.ws x e)) fun e => List.mem_append_right _ e
            · rw [ek]
              intro A a st x hx
              rcases List.mem_append.mp hx with hx | hx
              · exact L5.lo A a st x hx
              · rw [List.mem_singleton.mp hx]
                exact st hh z (L5.lo A a st hh (sub5 hh hk)) (List.mem_of_getElem? hz)
          have ek : ks (m' ++ [(z, hh)]) = ks m' ++ [z] := ks_snoc _ _ _
          refine ⟨_, m' ++ [(z, hh)], wt' ++ [z], rfl, L8, ?_, ?_, ?_, ?_⟩
          · rw [ek]
            exact fun x hx => List.mem_append_left _ (sub5 x hx)
          · rw [ek]
            intro x hx n1 n2 y hy
            rcases List.mem_append.mp hx with hx | hx
            · exact List.mem_append_left _ (cp5 x hx (fun e => n1 (List.mem_append_left _ e)) n2 y hy)
            · exact absurd (List.mem_append_right _ hx) n1
          · rw [ek]
            intro y hy
            rw [List.take_add_one, hz, List.mem_append] at hy
            rcases hy with hy | hy
            · exact List.mem_append_left _ (tk5 y hy)
            · exact List.mem_append_right _ (show y ∈ [z] from hy)
          · rw [List.length_append, List.length_append, List.length_singleton, List.length_singleton]
            omega
      · rintro σ' H5 ⟨b5, m', wt', rfl, L5, sub5, cp5, tk5, le5⟩
        rw [List.length_map, List.take_of_length_le (Nat.le_refl _)] at tk5
        refine ⟨_, _, m', wt', rfl, L5, fun x hx nx y hy => ?_, ?_⟩
        · by_cases e : x = hh
          · subst e
            exact tk5 y hy
          · exact cp5 x hx nx e y hy
        · rw [List.length_append, List.length_singleton]
          omega
end
end My

namespace My
open PySem PySem.Spec PyProof.Rows L2
/-! ### a list of texts has one sorted arrangement -/
def leS (a b : Str) : Prop := a.cps.toList ≤ b.cps.toList
theorem leS_of {a b : Str} (h : ltCps b.cps.toList a.cps.toList = false) : leS a b := by
  rw [ltCps_eq] at h
  exact List.not_lt.mp (of_decide_eq_false h)
theorem rise_all : ∀ {r : List Str} {p : Str}, risingS p r = true → (∀ x ∈ r, leS p x) ∧ r.Pairwise leS
  | [], _, _ => ⟨fun _ z => (nomatch z), List.Pairwise.nil⟩
  | x :: r, p, h => by
    have h2 : (!ltCps x.cps.toList p.cps.toList) = true ∧ risingS x r = true := by simpa only [risingS, Bool.and_eq_true] using h
    obtain ⟨a, b⟩ := rise_all h2.2
    have px : leS p x := leS_of (by simpa using h2.1)
    refine ⟨fun y hy => ?_, List.Pairwise.cons a b⟩
    rcases List.mem_cons.mp hy with rfl | hy
    · exact px
    · exact List.le_trans px (a y hy)
theorem sorted_pw {ys : List Str} (h : sortedS ys = true) : ys.Pairwise leS := by
  cases ys with
  | nil => exact List.Pairwise.nil
  | cons x r =>
    obtain ⟨a, b⟩ := rise_all (show risingS x r = true from h)
    exact List.Pairwise.cons a b
theorem leS_anti {a b : Str} (h1 : leS a b) (h2 : leS b a) : a = b := by
  have e := List.le_antisymm h1 h2
  cases a with
  | mk ca =>
    cases b with
    | mk cb =>
      have e' : ca.toList = cb.toList := e
      rw [Array.toList_inj.mp e']
theorem sort_one : ∀ {ys zs : List Str}, ys.Perm zs → ys.Pairwise leS → zs.Pairwise leS → ys = zs
  | [], zs, p, _, _ => (List.Perm.eq_nil p.symm).symm
  | y :: ys, [], p, _, _ => absurd (List.Perm.eq_nil p) (by simp)
  | y :: ys, z :: zs, p, h1, h2 => by
    have e : y = z := by
      have m1 : y ∈ z :: zs := p.mem_iff.mp List.mem_cons_self
      have m2 : z ∈ y :: ys := p.mem_iff.mpr List.mem_cons_self
      rcases List.mem_cons.mp m1 with e | m1
      · exact e
      · rcases List.mem_cons.mp m2 with e | m2
        · exact e.symm
        · exact leS_anti ((List.pairwise_cons.mp h1).1 z m2) ((List.pairwise_cons.mp h2).1 y m1)
    subst e
    rw [sort_one (List.perm_cons y |>.mp p) (List.pairwise_cons.mp h1).2 (List.pairwise_cons.mp h2).2]
theorem sort_uniq {ys zs ls : List Str} (p1 : ys.Perm ls) (s1 : sortedS ys = true) (p2 : zs.Perm ls) (s2 : sortedS zs = true) : ys = zs := sort_one (p1.trans p2.symm) (sorted_pw s1) (sorted_pw s2)
end My

namespace My
open PySem PySem.Spec PyProof.Rows L2 Gy Xl Xs Xt
/-! ### the one sorted arrangement of some texts -/
def ins (x : Str) : List Str → List Str
  | [] => [x]
  | y :: ys => if y.cps.toList < x.cps.toList then y :: ins x ys else x :: y :: ys
def srt : List Str → List Str
  | [] => []
  | x :: xs => ins x (srt xs)
theorem ins_perm (x : Str) : ∀ ys, (ins x ys).Perm (x :: ys)
  | [] => List.Perm.refl _
  | y :: ys => by
    unfold ins
    split
    · exact ((ins_perm x ys).cons y).trans (List.Perm.swap x y ys)
    · exact List.Perm.refl _
theorem srt_perm : ∀ xs, (srt xs).Perm xs
  | [] => List.Perm.refl _
  | x :: xs => (ins_perm x (srt xs)).trans ((srt_perm xs).cons x)
theorem ins_pw {x : Str} : ∀ {ys : List Str}, ys.Pairwise leS → (ins x ys).Pairwise leS
  | [], _ => List.pairwise_singleton _ _
  | y :: ys, h => by
    obtain ⟨h1, h2⟩ := List.pairwise_cons.mp h
    unfold ins
    split
    · rename_i c
      refine List.Pairwise.cons (fun z hz => ?_) (ins_pw h2)
      rcases List.mem_cons.mp ((ins_perm x ys).mem_iff.mp hz) with rfl | hz
      · exact List.le_of_lt c
      · exact h1 z hz
    · rename_i c
      have c' : leS x y := List.not_lt.mp c
      refine List.Pairwise.cons (fun z hz => ?_) h
      rcases List.mem_cons.mp hz with rfl | hz
      · exact c'
      · exact List.le_trans c' (h1 z hz)
theorem srt_pw : ∀ xs, (srt xs).Pairwise leS
  | [] => List.Pairwise.nil
  | x :: xs => ins_pw (srt_pw xs)
theorem srt_of {ys xs : List Str} (p : ys.Perm xs) (s : sortedS ys = true) : ys = srt xs := sort_one (p.trans (srt_perm xs).symm) (sorted_pw s) (srt_pw xs)
theorem srt_congr {xs ys : List Str} (p : xs.Perm ys) : srt xs = srt ys := sort_one ((srt_perm xs).trans (p.trans (srt_perm ys).symm)) (srt_pw xs) (srt_pw ys)
theorem srt_srt (xs : List Str) : srt (srt xs) = srt xs := srt_congr (srt_perm xs)
theorem srt_mem {xs : List Str} {x : Str} : x ∈ srt xs ↔ x ∈ xs := (srt_perm xs).mem_iff
theorem srt_len (xs : List Str) : (srt xs).length = xs.length := (srt_perm xs).length_eq
theorem srt_nd {xs : List Str} : (srt xs).Nodup ↔ xs.Nodup := (srt_perm xs).nodup_iff
/-! ### neighbours, what is reached -/
def adj : List (Str × Str) → Str → List Str
  | [], _ => []
  | p :: ls, x => (if x = p.1 then [p.2] else if x = p.2 then [p.1] else []) ++ adj ls x
theorem adj_app (ls ms : List (Str × Str)) (x : Str) : adj (ls ++ ms) x = adj ls x ++ adj ms x := by
  induction ls with
  | nil => rfl
  | cons p ls ih =>
    show _ ++ adj (ls ++ ms) x = (_ ++ adj ls x) ++ adj ms x
    rw [ih, List.append_assoc]
theorem adj_one (p : Str × Str) (x : Str) : adj [p] x = if x = p.1 then [p.2] else if x = p.2 then [p.1] else [] := List.append_nil _
theorem adj_mem {ls : List (Str × Str)} {x y : Str} : y ∈ adj ls x ↔ ∃ p ∈ ls, (x = p.1 ∧ y = p.2) ∨ (x = p.2 ∧ y = p.1) := by
  induction ls with
  | nil =>
    show y ∈ [] ↔ _
    simp
  | cons p ls ih =>
    show y ∈ (if x = p.1 then [p.2] else if x = p.2 then [p.1] else []) ++ adj ls x ↔ _
    rw [List.mem_append, ih]
    constructor
    · rintro (h | ⟨q, hq, h⟩)
      · by_cases e1 : x = p.1
        · rw [if_pos e1] at h
          exact ⟨p, List.mem_cons_self, .inl ⟨e1, List.mem_singleton.mp h⟩⟩
        · rw [if_neg e1] at h
          by_cases e2 : x = p.2
          · rw [if_pos e2] at h
            exact ⟨p, List.mem_cons_self, .inr ⟨e2, List.mem_singleton.mp h⟩⟩
          · rw [if_neg e2] at h
            cases h
      · exact ⟨q, List.mem_cons_of_mem _ hq, h⟩
    · rintro ⟨q, hq, h⟩
      rcases List.mem_cons.mp hq with rfl | hq
      · left
        rcases h with ⟨e1, e2⟩ | ⟨e1, e2⟩
        · rw [if_pos e1, e2]
          exact List.mem_singleton_self _
        · by_cases e3 : x = q.1
          · rw [if_pos e3, e2, ← e3, e1]
            exact List.mem_singleton_self _
          · rw [if_neg e3, if_pos e1, e2]
            exact List.mem_singleton_self _
      · exact .inr ⟨q, hq, h⟩
def Rc (ls : List (Str × Str)) (a b : Str) : Prop := ∀ A : Str → Prop, A a → (∀ p ∈ ls, A p.1 ↔ A p.2) → A b
theorem Rc.refl {ls : List (Str × Str)} {a : Str} : Rc ls a a := fun A h _ => h
theorem Rc.mono {ls ms : List (Str × Str)} {a b : Str} (h : Rc ls a b) (s : ∀ p ∈ ls, p ∈ ms) : Rc ms a b := fun A ha c => h A ha fun p hp => c p (s p hp)
theorem Rc.trans {ls : List (Str × Str)} {a b c : Str} (h : Rc ls a b) (k : Rc ls b c) : Rc ls a c := fun A ha cl => k A (h A ha cl) cl
theorem Rc.symm {ls : List (Str × Str)} {a b : Str} (h : Rc ls a b) : Rc ls b a := fun A hb cl => Classical.byContradiction fun na =>
  h (fun x => ¬ A x) na (fun p hp => not_congr (cl p hp)) hb
theorem Rc.of_adj {ls : List (Str × Str)} {a b : Str} (h : b ∈ adj ls a) : Rc ls a b := fun A ha cl => by
  obtain ⟨p, hp, ⟨e1, e2⟩ | ⟨e1, e2⟩⟩ := adj_mem.mp h
  · rw [e2]
    exact (cl p hp).mp (e1 ▸ ha)
  · rw [e2]
    exact (cl p hp).mpr (e1 ▸ ha)
theorem span_rc {ls : List (Str × Str)} {f : Str → List Str} {goal : Str} {ks : List Str} (hf : ∀ x y, y ∈ f x ↔ y ∈ adj ls x) (h : Span f goal ks) (x : Str) : x ∈ ks ↔ Rc ls goal x := by
  constructor
  · intro hx A ha cl
    exact h.lo A ha (fun y z hy hz => Rc.of_adj ((hf y z).mp hz) A hy cl) x hx
  · intro r
    refine r (fun y => y ∈ ks) h.st fun p hp => ⟨fun z => h.cl _ z _ ((hf _ _).mpr (adj_mem.mpr ⟨p, hp, .inl ⟨rfl, rfl⟩⟩)), fun z => h.cl _ z _ ((hf _ _).mpr (adj_mem.mpr ⟨p, hp, .inr ⟨rfl, rfl⟩⟩))⟩
/-- whether it is reached -/
noncomputable def rcB (ls : List (Str × Str)) (a b : Str) : Bool := @decide (Rc ls a b) (Classical.propDecidable _)
theorem rcB_t {ls : List (Str × Str)} {a b : Str} : rcB ls a b = true ↔ Rc ls a b := by
  unfold rcB
  exact @decide_eq_true_iff _ (Classical.propDecidable _)
theorem rcB_f {ls : List (Str × Str)} {a b : Str} : rcB ls a b = false ↔ ¬ Rc ls a b := by
  unfold rcB
  exact @decide_eq_false_iff_not _ (Classical.propDecidable _)
theorem span_dec {ls : List (Str × Str)} {f : Str → List Str} {goal : Str} {ks : List Str} (hf : ∀ x y, y ∈ f x ↔ y ∈ adj ls x) (h : Span f goal ks) (x : Str) : decide (x ∈ ks) = rcB ls goal x := by
  cases c : rcB ls goal x with
  | true => exact decide_eq_true ((span_rc hf h x).mpr (rcB_t.mp c))
  | false => exact decide_eq_false fun z => rcB_f.mp c ((span_rc hf h x).mp z)
/-! ### what a tree is made of: the first fault, or hosts and links -/
def nameD : PyData → Option Str
  | .str x => if isHost (.str x) = true then some x else none
  | _ => none
/-- a host of ns -/
def hostD (ns : List Str) : PyData → Option Str
  | .str x => if x ∈ ns then some x else none
  | _ => none
def linkD (ns : List Str) : PyData → Option (Str × Str)
  | .tuple [.str a, .str b] => if a ∈ ns ∧ b ∈ ns ∧ a ≠ b then some (a, b) else none
  | _ => none
def seqD : PyData → Option (List PyData)
  | .list ds => some ds
  | .tuple ds => some ds
  | _ => none
abbrev Flt := Str × PyData
def hostsF : List Str → List PyData → List Str ⊕ Flt
  | ns, [] => .inl ns
  | ns, d :: ds => match nameD d with
    | none => .inr ("name", d)
    | some x => if x ∈ ns then .inr ("duplicate", d) else hostsF (ns ++ [x]) ds
noncomputable def joinF (ns : List Str) : List (Str × Str) → List PyData → List (Str × Str) ⊕ Flt
  | ls, [] => .inl ls
  | ls, d :: ds => match linkD ns d with
    | none => .inr ("link", d)
    | some p => if p.2 ∈ adj ls p.1 then .inr ("duplicate", d) else if rcB ls p.1 p.2 = true then .inr ("cycle", d) else joinF ns (ls ++ [p]) ds
theorem hostsF_c (ns : List Str) (d : PyData) (ds : List PyData) : hostsF ns (d :: ds) = match nameD d with
    | none => .inr ("name", d)
    | some x => if x ∈ ns then .inr ("duplicate", d) else hostsF (ns ++ [x]) ds := rfl
theorem joinF_c (ns : List Str) (ls : List (Str × Str)) (d : PyData) (ds : List PyData) : joinF ns ls (d :: ds) = match linkD ns d with
    | none => .inr ("link", d)
    | some p => if p.2 ∈ adj ls p.1 then .inr ("duplicate", d) else if rcB ls p.1 p.2 = true then .inr ("cycle", d) else joinF ns (ls ++ [p]) ds := rfl
noncomputable def connF (ns : List Str) (ls : List (Str × Str)) : Option Str := (srt ns).find? fun x => !rcB ls ((srt ns).headD "") x
def hostsQ (dh : PyData) : List Str ⊕ Flt := match seqD dh with
  | some (d :: ds) => hostsF [] (d :: ds)
  | _ => .inr ("hosts", dh)
noncomputable def linksQ (ns : List Str) (dl : PyData) : List (Str × Str) ⊕ Flt := match seqD dl with
  | some ds => joinF ns [] ds
  | none => .inr ("links", dl)
noncomputable def treeF (dh dl : PyData) : (List Str × List (Str × Str)) ⊕ Flt := match hostsQ dh with
  | .inr e => .inr e
  | .inl ns => match linksQ ns dl with
    | .inr e => .inr e
    | .inl ls => match connF ns ls with
      | some x => .inr ("connected", .str x)
      | none => .inl (ns, ls)
/-! ### a tree's hosts and links -/
structure Tk (ns : List Str) (ls : List (Str × Str)) : Prop where
  nd : ns.Nodup
  nm : ∀ x ∈ ns, Nm x
  ne : ns ≠ []
  en : ∀ p ∈ ls, p.1 ∈ ns ∧ p.2 ∈ ns
  ac : ∀ l1 p l2, ls = l1 ++ p :: l2 → ¬ Rc (l1 ++ l2) p.1 p.2
  co : ∀ x ∈ ns, ∀ y ∈ ns, Rc ls x y
theorem Tk.perm {ns ms : List Str} {ls ks : List (Str × Str)} (h : Tk ns ls) (p1 : ms.Perm ns) (p2 : ks.Perm ls) : Tk ms ks := by
  refine ⟨p1.nodup_iff.mpr h.nd, fun x hx => h.nm x (p1.mem_iff.mp hx), fun z => h.ne ?_, fun p hp => ?_, fun l1 p l2 e r => ?_, fun x hx y hy => ?_⟩
  · subst z
    exact (List.Perm.nil_eq p1).symm
  · obtain ⟨a, b⟩ := h.en p (p2.mem_iff.mp hp)
    exact ⟨p1.mem_iff.mpr a, p1.mem_iff.mpr b⟩
  · have hp : p ∈ ls := p2.mem_iff.mp (by rw [e]; exact List.mem_append_right _ List.mem_cons_self)
    obtain ⟨m1, m2, em⟩ := List.append_of_mem hp
    have q : (p :: (l1 ++ l2)).Perm (p :: (m1 ++ m2)) := (List.perm_middle.symm.trans (e ▸ p2)).trans (em ▸ List.perm_middle)
    exact h.ac m1 p m2 em (r.mono fun z hz => ((List.perm_cons p).mp q).mem_iff.mp hz)
  · exact (h.co x (p1.mem_iff.mp hx) y (p1.mem_iff.mp hy)).mono fun z hz => p2.mem_iff.mpr hz
theorem nm_host {x : Str} (h : Nm x) : isHost (.str x) = true := by
  obtain ⟨h1, h2, h3⟩ := h
  show (decide ((1 : Int) ≤ (x.length : Int)) && decide ((x.length : Int) ≤ 8) && x.cps.toList.all fun c => decide (c ∈ LET.cps.toList)) = true
  rw [decide_eq_true (by omega), decide_eq_true (by omega), Bool.true_and, Bool.true_and, List.all_eq_true]
  exact fun c hc => decide_eq_true (h3 c hc)
theorem host_nm {x : Str} (h : isHost (.str x) = true) : Nm x := by
  have h : (decide ((1 : Int) ≤ (x.length : Int)) && decide ((x.length : Int) ≤ 8) && x.cps.toList.all fun c => decide (c ∈ LET.cps.toList)) = true := h
  rw [Bool.and_eq_true, Bool.and_eq_true, decide_eq_true_eq, decide_eq_true_eq, List.all_eq_true] at h
  exact ⟨by omega, by omega, fun c hc => of_decide_eq_true (h.2 c hc)⟩
theorem hostsF_ok : ∀ (xs ns : List Str), (ns ++ xs).Nodup → (∀ x ∈ xs, Nm x) → hostsF ns (xs.map PyData.str) = .inl (ns ++ xs)
  | [], ns, _, _ => by rw [List.append_nil]; rfl
  | x :: xs, ns, nd, nm => by
    have e : nameD (.str x) = some x := if_pos (nm_host (nm x List.mem_cons_self))
    have nx : x ∉ ns := fun z => by
      rw [List.nodup_append] at nd
      exact nd.2.2 x z x List.mem_cons_self rfl
    rw [List.map_cons, hostsF_c, e]
    dsimp only
    rw [if_neg nx, hostsF_ok xs (ns ++ [x]) (by rw [List.append_assoc]; exact nd) fun y hy => nm y (List.mem_cons_of_mem _ hy), List.append_assoc]
    rfl
def lnkD (p : Str × Str) : PyData := .tuple [.str p.1, .str p.2]
theorem Tk.ends {ns : List Str} {ls : List (Str × Str)} (h : Tk ns ls) {p : Str × Str} (hp : p ∈ ls) : p.1 ≠ p.2 := fun e => by
  obtain ⟨m1, m2, em⟩ := List.append_of_mem hp
  exact h.ac m1 p m2 em (by rw [← e]; exact Rc.refl)
theorem joinF_ok {ns : List Str} {ls : List (Str × Str)} (h : Tk ns ls) : ∀ (l2 l1 : List (Str × Str)), ls = l1 ++ l2 → joinF ns l1 (l2.map lnkD) = .inl ls
  | [], l1, e => by
    rw [e, List.append_nil]
    rfl
  | p :: l2, l1, e => by
    have hp : p ∈ ls := by rw [e]; exact List.mem_append_right _ List.mem_cons_self
    have e1 : linkD ns (lnkD p) = some p := if_pos ⟨(h.en p hp).1, (h.en p hp).2, h.ends hp⟩
    have nr : ¬ Rc l1 p.1 p.2 := fun r => h.ac l1 p l2 e (r.mono fun z hz => List.mem_append_left _ hz)
    rw [List.map_cons, joinF_c, e1]
    dsimp only
    rw [if_neg fun z => nr (Rc.of_adj z), rcB_f.mpr nr, if_neg Bool.false_ne_true]
    exact joinF_ok h l2 (l1 ++ [p]) (by rw [e, List.append_assoc]; rfl)
theorem headD_mem {xs : List Str} (h : xs ≠ []) : xs.headD "" ∈ xs := by
  cases xs with
  | nil => exact absurd rfl h
  | cons x xs => exact List.mem_cons_self
theorem connF_ok {ns : List Str} {ls : List (Str × Str)} (h : Tk ns ls) : connF ns ls = none := by
  unfold connF
  rw [List.find?_eq_none]
  intro x hx
  have hm := headD_mem (xs := srt ns) (fun z => h.ne (List.Perm.nil_eq (z ▸ srt_perm ns)).symm)
  rw [rcB_t.mpr (h.co _ (srt_mem.mp hm) x (srt_mem.mp hx))]
  decide
theorem treeF_ok {ns : List Str} {ls : List (Str × Str)} {dh dl : PyData} (h : Tk ns ls) (h1 : seqD dh = some (ns.map PyData.str)) (h2 : seqD dl = some (ls.map lnkD)) : treeF dh dl = .inl (ns, ls) := by
  have e1 : hostsQ dh = .inl ns := by
    unfold hostsQ
    rw [h1]
    cases ns with
    | nil => exact absurd rfl h.ne
    | cons x xs => exact hostsF_ok (x :: xs) [] h.nd h.nm
  have e2 : linksQ ns dl = .inl ls := by
    unfold linksQ
    rw [h2]
    exact joinF_ok h ls [] rfl
  unfold treeF
  rw [e1]
  dsimp only
  rw [e2]
  dsimp only
  rw [connF_ok h]
end My

namespace My
open PySem PySem.Spec PyProof.Rows L2 Gy Xl Xs Xt
/-! ### the program's defs about hosts and links -/
/-- a walk over a list or a tuple -/
theorem pi_or {X : Cx} {tg e : Expr} {w1 w2 : TI} (h1 : PI X tg e w1) (h2 : PI X tg e w2) : PI X tg e (fun σ H R => w1 σ H R ∨ w2 σ H R) := ⟨fun pins s σ H R I h => h.elim (fun h => h1.run pins s σ H R I h) fun h => h2.run pins s σ H R I h⟩
theorem kit_any2 {K : PySem.W.Frag} {t a b : String} {r1 r2 : Bool} (h1 : kitB t a = some r1) (h2 : kitB t b = some r2) : PySem.W.kitAny K (.type t) [.type a, .type b] = some (r1 || r2) := by
  unfold PySem.W.kitAny
  rw [kit_ty h1]
  cases r1 with
  | true => rfl
  | false =>
    show (match PySem.W.kitOne K (.type t) (.type b) with
      | some true => some true
      | some false => PySem.W.kitAny K (.type t) []
      | none => none) = _
    rw [kit_ty h2]
    cases r2 <;> rfl
theorem hostD_str (ns : List Str) (x : Str) : (hostD ns (.str x)).isSome = decide (x ∈ ns) := by
  show (if x ∈ ns then some x else none).isSome = decide (x ∈ ns)
  by_cases h : x ∈ ns
  · rw [if_pos h, decide_eq_true h]
    rfl
  · rw [if_neg h, decide_eq_false h]
    rfl
theorem hostD_no {ns : List Str} {d : PyData} (nm : ∀ x ∈ ns, Nm x) (h : isHost d = false) : hostD ns d = none := by
  cases d with
  | str x => exact if_neg fun z => by rw [nm_host (nm x z)] at h; cases h
  | _ => rfl
theorem hostD_some {ns : List Str} {d : PyData} {x : Str} (h : hostD ns d = some x) : d = .str x ∧ x ∈ ns := by
  cases d with
  | str y =>
    have h' : (if y ∈ ns then some y else none) = some x := h
    by_cases c : y ∈ ns
    · rw [if_pos c] at h'
      cases h'
      exact ⟨rfl, c⟩
    · rw [if_neg c] at h'
      cases h'
  | _ => cases h
theorem host_str {d : PyData} (h : isHost d = true) : ∃ x, d = .str x := by
  cases d with
  | str x => exact ⟨x, rfl⟩
  | _ => cases h
def both2 (ns : List Str) (d e : PyData) (g : Str → Str → Bool) : Bool := match hostD ns d, hostD ns e with
  | some x, some y => g x y
  | _, _ => false
theorem both2_n1 {ns : List Str} {d e : PyData} {g : Str → Str → Bool} (h : hostD ns d = none) : both2 ns d e g = false := by
  unfold both2
  rw [h]
theorem both2_n2 {ns : List Str} {d e : PyData} {g : Str → Str → Bool} (h : hostD ns e = none) : both2 ns d e g = false := by
  unfold both2
  rw [h]
  cases hostD ns d <;> rfl
theorem both2_y {ns : List Str} {d e : PyData} {g : Str → Str → Bool} {x y : Str} (h : hostD ns d = some x) (h2 : hostD ns e = some y) : both2 ns d e g = g x y := by
  unfold both2
  rw [h, h2]
theorem linkD_2 (ns : List Str) (dp dc : PyData) : (linkD ns (.tuple [dp, dc])).isSome = both2 ns dp dc fun x y => !decide (V.str x = V.str y) := by
  cases h : hostD ns dp with
  | none =>
    rw [both2_n1 h]
    cases dp with
    | str x =>
      cases dc with
      | str y =>
        have hx : x ∉ ns := fun z => by
          have h' : (if x ∈ ns then some x else none) = none := h
          rw [if_pos z] at h'
          cases h'
        show (if x ∈ ns ∧ y ∈ ns ∧ x ≠ y then some (x, y) else none).isSome = false
        rw [if_neg fun z => hx z.1]
        rfl
      | _ => rfl
    | _ => rfl
  | some x =>
    obtain ⟨rfl, hx⟩ := hostD_some h
    cases h2 : hostD ns dc with
    | none =>
      rw [both2_n2 h2]
      cases dc with
      | str y =>
        have hy : y ∉ ns := fun z => by
          have h' : (if y ∈ ns then some y else none) = none := h2
          rw [if_pos z] at h'
          cases h'
        show (if x ∈ ns ∧ y ∈ ns ∧ x ≠ y then some (x, y) else none).isSome = false
        rw [if_neg fun z => hy z.2.1]
        rfl
      | _ => rfl
    | some y =>
      obtain ⟨rfl, hy⟩ := hostD_some h2
      rw [both2_y h h2]
      show (if x ∈ ns ∧ y ∈ ns ∧ x ≠ y then some (x, y) else none).isSome = _
      by_cases e : x = y
      · rw [if_neg fun z => z.2.2 e, e, decide_eq_true rfl]
        rfl
      · rw [if_pos ⟨hx, hy, e⟩, decide_eq_false fun z => e (by injection z)]
        rfl
theorem linkD_n {ns : List Str} {ds : List PyData} (h : ds.length ≠ 2) : linkD ns (.tuple ds) = none := by
  match ds, h with
  | [], _ => rfl
  | [a], _ => cases a <;> rfl
  | a :: b :: c :: r, _ => cases a <;> cases b <;> rfl
  | [a, b], h => exact absurd rfl h
theorem linkD_o {ns : List Str} {d : PyData} (h : ∀ ds, d ≠ .tuple ds) : linkD ns d = none := by
  cases d with
  | tuple ds => exact absurd rfl (h ds)
  | _ => rfl
theorem linkD_some {ns : List Str} {d : PyData} {p : Str × Str} (h : linkD ns d = some p) : d = lnkD p ∧ p.1 ∈ ns ∧ p.2 ∈ ns ∧ p.1 ≠ p.2 := by
  cases d with
  | tuple ds =>
    match ds, h with
    | [.str a, .str b], h =>
      have h' : (if a ∈ ns ∧ b ∈ ns ∧ a ≠ b then some (a, b) else none) = some p := h
      by_cases c : a ∈ ns ∧ b ∈ ns ∧ a ≠ b
      · rw [if_pos c] at h'
        cases h'
        exact ⟨rfl, c⟩
      · rw [if_neg c] at h'
        cases h'
  | _ => cases h
theorem adj_len (ls : List (Str × Str)) (x : Str) : (adj ls x).length ≤ ls.length := by
  induction ls with
  | nil => exact Nat.le_refl _
  | cons p ls ih =>
    show ((if x = p.1 then [p.2] else if x = p.2 then [p.1] else []) ++ adj ls x).length ≤ ls.length + 1
    rw [List.length_append]
    have : (if x = p.1 then [p.2] else if x = p.2 then [p.1] else []).length ≤ 1 := by
      split
      · exact Nat.le_refl _
      · split
        · exact Nat.le_refl _
        · exact Nat.zero_le _
    omega
/-- an error InvalidTree with this reason, of a value that is shown so -/
def Rf (K : PySem.W.Frag) (E : XK) (C : Addr) (e : Flt) (H : Hp) : Prop := ∀ v H' dx, Same H H' → Dn K H' v e.2 → H' dx = some (.xd [("value", v), ("reason", .str e.1)]) → E (.ref C) (some dx) H'
theorem Rf.same {K : PySem.W.Frag} {E : XK} {C : Addr} {e : Flt} {H H1 : Hp} (h : Rf K E C e H) (s : Same H H1) : Rf K E C e H1 := fun v H' dx s1 d x => h v H' dx (s.trans s1) d x
theorem Rf.ro {K : PySem.W.Frag} {E : XK} {C : Addr} {r : Str} {d : PyData} {v : V} {H : Hp} (h : Rf K E C (r, d) H) (dn : Dn K H v d) : Ro2 E C "reason" "value" (.str r) v H := fun H' dx s x => h v H' dx s (dn.same s) x
section
variable {P : Program} {w : World} {K : PySem.W.Frag} {mg : Str → Option Value} {base : Heap} {H : Hp}
def spIsH (K : PySem.W.Frag) : Sp := fun vs H Q _ => ∃ (La : Addr) (v : V) (d : PyData) (ns : List Str) (fn : Str → List Str) (ad : Str → Addr), vs = [.ref La, v] ∧ Gr H La ns fn ad ∧ (∀ x ∈ ns, Nm x) ∧ Dn K H v d ∧ Kd K H v ∧ ∀ H', Same H H' → Q (.bl (hostD ns d).isSome) H'
theorem ok_isH {f : Addr} {fd : FuncData} (F : Fun K "is_host" "is_host" s_is_host f fd) (G_is_host_name : Fk P w K mg base CX0 2 "is_host_name" ["value"] (spHost K)) : FnOk P w K mg base CX0 3 f fd ["linked", "value"] (spIsH K) := by
  refine F.ok sc_is_host (fun vs H Q E h => ?_) (fun cdv A outer s H vs Q E hr h => ?_)
  · obtain ⟨La, v, d, ns, fn, ad, rfl, _⟩ := h
    rfl
  · obtain ⟨La, v, d, ns, fn, ad, rfl, g, nm, dn, kd, q⟩ := h
    have hu1 := Nat.lt_of_le_of_lt (Nat.add_le_add_left (show 1 ≤ 64 by decide) _) hr.units
    refine ⟨_, (pss_one (ps_ret (pe_and (pe_callF G_is_host_name (hr.mono (by decide)) (by rfl) pass0 (pa_cons (pv 1) pa_nil)) (pe_one (pe_cmp (pc_din hu1 (pv 1) (pv 0)) rfl))))), ?_⟩
    refine ⟨v, rfl, v, rfl, kd, fun H1 s1 => ?_⟩
    rw [host_dn dn]
    cases c : isHost d with
    | false =>
      refine ⟨_, rfl, iteF ?_⟩
      rw [hostD_no nm c] at q
      exact q _ s1
    | true =>
      obtain ⟨x, rfl⟩ := host_str c
      cases dn
      refine ⟨_, rfl, iteT ?_⟩
      refine ⟨_, rfl, _, rfl, La, _, rfl, DGet.k (k := Sum.inr x) (s1 _ _ g.at_), ?_⟩
      have e : (valV (gkv ns ad) (Sum.inr x)).isSome = (hostD ns (.str x)).isSome := by
        rw [gkv_val, hostD_str]
        by_cases h : x ∈ ns
        · rw [if_pos h, decide_eq_true h]
          rfl
        · rw [if_neg h, decide_eq_false h]
          rfl
      rw [e]
      exact q _ s1
def spChkH (K : PySem.W.Frag) (U : Addr) : Sp := fun vs H Q E => ∃ (La : Addr) (v : V) (d : PyData) (ns : List Str) (fn : Str → List Str) (ad : Str → Addr), vs = [.ref La, v] ∧ Gr H La ns fn ad ∧ (∀ x ∈ ns, Nm x) ∧ Dn K H v d ∧ Kd K H v ∧
  (hostD ns d = none → Ro E U "host" v H) ∧ ∀ x, hostD ns d = some x → ∀ H', Same H H' → Q .non H'
theorem ok_chkH {f U : Addr} {fd : FuncData} (F : Fun K "check_host" "check_host" s_check_host f fd) (R : Rz P w K mg base "UnknownHost" "host" U) (G_is_host : Fk P w K mg base CX0 3 "is_host" ["linked", "value"] (spIsH K)) : FnOk P w K mg base (L2.CX P w) 4 f fd ["linked", "value"] (spChkH K U) := by
  obtain ⟨fI, fdI, XI, GI, bI⟩ := R.ex
  refine F.okX sc_check_host (fun vs H Q E h => ?_) (fun cdv A outer s H vs Q E hr h => ?_)
  · obtain ⟨La, v, d, ns, fn, ad, rfl, _⟩ := h
    rfl
  · obtain ⟨La, v, d, ns, fn, ad, rfl, g, nm, dn, kd, q1, q2⟩ := h
    refine ⟨_, (pss_one (ps_if (pt_not (pt_val (pe_callF G_is_host (hr.mono (by decide)) (by rfl) pass0 (pa_cons (pv 0) (pa_cons (pv 1) pa_nil)))))
 (pss_one (ps_raise1 rfl (takes_of rfl rfl rfl rfl) XI R.ty GI (hr.mono (by decide)) bI (by rfl) R.gm (pa_cons (pv 1) pa_nil)))
 pss_nil)), ?_⟩
    refine ⟨_, rfl, _, rfl, La, v, d, ns, fn, ad, rfl, g, nm, dn, kd, fun H1 s1 => ⟨_, rfl, ?_⟩⟩
    cases c : hostD ns d with
    | none => exact iteT ⟨_, rfl, v, rfl, fun dx nd => q1 c _ dx (s1.trans (same_upd nd)) upd_same⟩
    | some x => exact iteF (q2 x c _ s1)
def spPair (K : PySem.W.Frag) : Sp := fun vs H Q _ => ∃ (La : Addr) (v : V) (d : PyData) (ns : List Str) (fn : Str → List Str) (ad : Str → Addr), vs = [.ref La, v] ∧ Gr H La ns fn ad ∧ (∀ x ∈ ns, Nm x) ∧ Dn K H v d ∧ sml d = true ∧ ∀ H', Same H H' → Q (.bl (linkD ns d).isSome) H'
theorem ok_pair {f : Addr} {fd : FuncData} (F : Fun K "is_pair_of_hosts" "is_pair_of_hosts" s_is_pair_of_hosts f fd) (Y : Bn mg) (G_is_host : Fk P w K mg base CX0 3 "is_host" ["linked", "value"] (spIsH K)) : FnOk P w K mg base CX0 4 f fd ["linked", "value"] (spPair K) := by
  refine F.ok sc_is_pair_of_hosts (fun vs H Q E h => ?_) (fun cdv A outer s H vs Q E hr h => ?_)
  · obtain ⟨La, v, d, ns, fn, ad, rfl, _⟩ := h
    rfl
  · obtain ⟨La, v, d, ns, fn, ad, rfl, g, nm, dn, sm, q⟩ := h
    refine ⟨_, (pss_cons (ps_if (PW.pt (pw_or (pt_not (pt_val (pe_callB call_isi (by rfl) Y.isinstance (by decide +kernel) (pa_cons (pv 1) (pa_cons (pe_bltn (v := .ty "tuple") (by rfl) Y.tuple (by decide +kernel) rfl) pa_nil))))) (pw_or1 (pt_cmpR op_ne (pe_callB call_len_seq (by rfl) Y.len PySem.boot_len (pa_cons (pv 1) pa_nil)) pe_int (nomark _)))))
 (pss_one (ps_ret pe_bl))
 pss_nil)
 (pss_one (ps_ret (pe_and (pe_callF G_is_host (hr.mono (by decide)) (by rfl) pass0 (pa_cons (pv 0) (pa_cons (pe_ix ix_tup (pv 1) pe_int (fun _ _ => rfl)) pa_nil))) (pe_and (pe_callF G_is_host (hr.mono (by decide)) (by rfl) pass0 (pa_cons (pv 0) (pa_cons (pe_ix ix_tup (pv 1) pe_int (fun _ _ => rfl)) pa_nil))) (pe_one (pe_cmpR op_ne (pe_ix ix_tup (pv 1) pe_int (fun _ _ => rfl)) (pe_ix ix_tup (pv 1) pe_int (fun _ _ => rfl)) (nomark _)))))))), ?_⟩
    rcases tup_or dn with ⟨a, xs, ds, rfl, rfl, ha, hd⟩ | ⟨no, t, ty, kt⟩
    · have sm2 : ds.length ≤ 1000 ∧ smls ds = true := by simpa only [sml, Bool.and_eq_true, decide_eq_true_eq] using sm
      have el := Dns.len hd
      refine ⟨_, rfl, _, _, _, _, true, rfl, .ty "tuple", ha.ty, kit_ty (by decide +kernel), _, rfl, iteF ?_⟩
      refine ⟨_, rfl, a, _, rfl, .inr (ha.sq), rfl, _, rfl, ite2 (fun c => ?_) (fun c => ?_)⟩
      · have c' : ds.length ≠ 2 := fun z => by
          rw [decide_eq_true (show V.int (xs.length : Int) = V.int 2 by rw [el, z]; rfl)] at c
          cases c
        rw [linkD_n c'] at q
        exact q _ (Same.refl _)
      · have c' : xs.length = 2 := by
          have z : V.int (xs.length : Int) = V.int 2 := Decidable.of_not_not fun z => c (by rw [decide_eq_false z]; rfl)
          injection z with z
          omega
        obtain ⟨p, c0, rfl⟩ : ∃ p c0, xs = [p, c0] := by
          match xs, c' with
          | [p, c0], _ => exact ⟨p, c0, rfl⟩
        cases hd with
        | @cons _ _ dp _ h1 hd =>
        cases hd with
        | @cons _ _ dc _ h2 hd =>
          cases hd
          have m1 : sml dp = true := smls_mem sm2.2 List.mem_cons_self
          have m2 : sml dc = true := smls_mem sm2.2 (List.mem_cons_of_mem _ List.mem_cons_self)
          rw [linkD_2] at q
          refine ⟨_, rfl, _, rfl, a, _, 0, p, rfl, rfl, ha.sq, atI_nat (j := 0) rfl, La, p, dp, ns, fn, ad, rfl, g, nm, h1, kd_dn h1 m1, fun H1 s1 => ⟨_, rfl, ?_⟩⟩
          cases e1 : hostD ns dp with
          | none =>
            rw [both2_n1 e1] at q
            exact iteF (q _ s1)
          | some x =>
            refine iteT ?_
            refine ⟨_, rfl, _, rfl, a, _, 1, c0, rfl, rfl, (ha.same s1).sq, atI_nat (j := 1) rfl, La, c0, dc, ns, fn, ad, rfl, g.same s1, nm, h2.same s1, kd_dn (h2.same s1) m2, fun H2 s2 => ⟨_, rfl, ?_⟩⟩
            have s02 := s1.trans s2
            cases e2 : hostD ns dc with
            | none =>
              rw [both2_n2 e2] at q
              exact iteF (q _ s02)
            | some y =>
              refine iteT ?_
              rw [both2_y e1 e2] at q
              obtain ⟨rfl, _⟩ := hostD_some e1
              obtain ⟨rfl, _⟩ := hostD_some e2
              cases h1
              cases h2
              refine ⟨_, rfl, a, _, 0, _, rfl, rfl, (ha.same s02).sq, atI_nat (j := 0) rfl, _, rfl, a, _, 1, _, rfl, rfl, (ha.same s02).sq, atI_nat (j := 1) rfl, rfl, ?_⟩
              exact q _ s02
    · refine ⟨_, rfl, _, _, _, _, false, rfl, .ty "tuple", ty, kit_ty kt, _, rfl, iteT ?_⟩
      rw [linkD_o no] at q
      exact iteT (q _ (Same.refl _))
end
end My

/-! defs that raise, where it matters that the exception's context is None. -/
namespace Xl
open PySem PySem.Spec PyProof.Rows L2 L2H Gy
section
variable {P : Program} {w : World} {K : PySem.W.Frag} {mg : Str → Option Value} {base : Heap}
/-- as Fun.okX -/
theorem okXN {x qual : Str} {st : Stmt} {f : Addr} {fd : FuncData} {N ps : List Str} {k : Nat} {sp : Sp} (F : Fun K x qual st f fd) (S : FnScope N ps (defScope st)) (len : ∀ vs H Q E, sp vs H Q E → vs.length = ps.length)
    (hbody : ∀ (cdv : Value) (A : Around) (outer : List Env) (s : Shared) (H : Hp) (vs : List V) (Q : VK) (E : XK), Room k (A.deeper (envOfC qual (defScope st) s.heap.objs.size f cdv)) → sp vs H Q E →
      ∃ t, PSs (cxOf (L2N.CX P w) P w K mg base N qual (defScope st) f cdv A outer s H E) (defBody st) t ∧ t { nx := fun _ H' => Q .non H', rt := Q } (start N vs) H) : FnOk P w K mg base (L2N.CX P w) (k + 1) f fd ps sp := by
  obtain ⟨oc, od, kV, doc, pm, an, cdv, ct, osl, rfl, lk, hcd⟩ := F.ex
  exact fn_of lk hcd S len fun A outer s H vs Q E hr hsp => hbody cdv A outer s H vs Q E hr hsp
end
theorem passNN {X : Cx} : Passes (L2N.CX X.prog X.w) X (fun _ _ _ => False) := fun _ _ _ _ _ _ _ h => by
  obtain ⟨_, _, _, _, _, _, _, _, _, _, _, _, z⟩ := h
  exact z.elim
section
variable {X : Cx} {C fI : Addr} {fd : FuncData} {f1 f2 x : Str} {e e2 : Expr} {p pos : Pos}
theorem mk_endN {pins : List (Addr × Obj)} {σ : L2.St} {H1 H2 : Hp} {Q : XK} {hp hp2 h2 : Heap} {g1 g2 : Array GenState} {d1 d2 : Drawn} {t1 t2 : Nat} {os1 os2 : OsState} {a C d : Addr} {fs : List (Str × V)} (T : Raises X (.ref C)) (I1 : Inv X pins σ H1 ⟨hp, g1, d1, t1, os1⟩)
    (ha : hp.objs.size ≤ a) (k : ∀ b o, hp.get? b = some o → hp2.get? b = some o) (un : Un (frs X.stack) [] (upd H1 a (exo a C none)) H2 hp2 h2) (hok : HOk X.prog X.w H2 h2) (ho : os2 = os1) (hb : AllBare g2)
    (ea : H2 a = some (exo a C (some d))) (ed : H2 d = some (exd d fs)) (hd1 : H1 d = none) (q : Q (.ref C) (some d) (upd (del H2 a) d (.xd fs))) : L2N.MkP X pins σ Q (.ref a) ⟨h2, g2, d2, t2, os2⟩ := by
  obtain ⟨t0, G, J, kG, ge, hoe, na⟩ := mk_end0 (d2 := d2) (t2 := t2) I1 ha k un hok ho hb ea ed hd1
  exact ⟨a, _, _, ⟨G, g2, d2, t2, os2⟩, _, .ref C, some d, rfl, J, kG, ge, hoe, ⟨rfl, rfl, fun vs hv => by cases hv; rfl⟩, rfl, rfl, na, rfl, hb, T, q⟩
theorem pmk_x2N {t : TA} (T : XIn X.K C fI) (ty : PySem.W.typeIn X.K (.ref C) = some (.type "type")) (F : FnOk X.prog X.w X.K X.mg X.base CX0 1 fI fd ["self", f1, f2] (spI2 C f1 f2)) (hr : Room 2 X.A)
    (hb : XB X.K fd ["self", f1, f2] [] (fun us _ => us) (fun vs _ => vs)) (hg : Gl X x) (hm : X.mg x = some (.ref C)) (ha : PA X [e, e2] t)
    (hdb : (x == ("__debug__" : Str)) = false := by decide) (hst : starEach [e, e2] X.env = (false, eval e X.env) :: starEach [e2] X.env := by rfl) (hpl : (backTo pos (starEach [e2] X.env)).any (·.1) = false := by rfl) :
    L2N.PMk X (.Call (.Name x p) [e, e2] [] pos) (tMk2 C f1 f2 t) := by
  intro pins s σ H Q I h
  refine wpAny_Call_Name_kw (ld_glob I hg hm ?_ hdb)
  refine PySem.W.callWith_K (h₀ := X.base) I.ok.mod.kin T.kp (thn (ha.run pos pins s σ H _ I h) ?_) hst hpl
  rintro us s1 ⟨vs, H1, I1, r1, v1, v2, rfl, q1⟩
  refine ⟨I1.kIn, ?_⟩
  show wpAny _ _ (call (.ref C) us) _ _ _
  obtain ⟨B, nI, iI, bmB, BF, _, ii, _⟩ := T.base
  obtain ⟨nm, N', qn, bs, bm, hdct, sn, sub, ab, col, dd, k0, k1, k2, k3, k5, cl, hT⟩ := PySem.W.excInit_of I1.kIn ii
  obtain ⟨hp, g', dr, tk', os⟩ := s1
  have big : hp.objs.size ≤ hp.objs.size + 1 := Nat.le_succ _
  have na : H1 (hp.objs.size + 1) = none := I1.hok.fresh big
  have keep : ∀ b o, hp.get? b = some o → ((hp.push (PySem.W.kdv_tup us)).push (PySem.PX.excO C hp.objs.size)).get? b = some o := fun b o e =>
    Heap.get?_push_of_some _ (Heap.get?_push_of_some _ e)
  have new : ((hp.push (PySem.W.kdv_tup us)).push (PySem.PX.excO C hp.objs.size)).get? (hp.objs.size + 1) = some (PySem.PX.excO C hp.objs.size) := by heap_get
  have I2 := I1.laid (t' := tk') (a := hp.objs.size + 1) (o := exo (hp.objs.size + 1) C none) keep big (exo_ok new)
  have r2 : Vals [V.ref (hp.objs.size + 1), v1, v2] (Value.ref (hp.objs.size + 1) :: us) := .cons rfl r1
  have hq : spI2 C f1 f2 [V.ref (hp.objs.size + 1), v1, v2] (upd H1 (hp.objs.size + 1) (exo (hp.objs.size + 1) C none))
      (fun r H2 => r = .non ∧ ∃ dx, dx ≠ hp.objs.size + 1 ∧ upd H1 (hp.objs.size + 1) (exo (hp.objs.size + 1) C none) dx = none ∧
        H2 = upd (upd (upd (upd H1 (hp.objs.size + 1) (exo (hp.objs.size + 1) C none)) dx (exd dx [(f1, v1)])) (hp.objs.size + 1) (exo (hp.objs.size + 1) C (some dx))) dx (exd dx [(f2, v2), (f1, v1)])) (fun _ _ _ => False) :=
    ⟨_, v1, v2, rfl, upd_same, fun dx nd ne => ⟨rfl, dx, ne, nd, rfl⟩⟩
  have bl := hb.to ⟨_, g', dr, tk', os⟩ (Value.ref (hp.objs.size + 1)) us [] I2.kIn (by rw [← r2.length]; rfl)
  refine wpAny_call (PySem.Xg.kw_call BF hT cl (PySem.W.looks_findIn I1.kIn T.ini) (fun self => PySem.W.bind_fn I1.kIn self T.tf) ?_ (codeAny_mono (F.run _ X.stack _ _ _ _ _ _ _ (hr.make C us []) (I2.env0.make C us []) bl r2 hq) ?_))
  · rw [← r1.length, sizeLine_eq]
    show 2 ≤ 16777216
    decide
  · rintro (er | (_ | _ | _ | u)) s' z
    · exact (show False from z).elim
    · exact z.elim
    · exact z.elim
    · exact z.elim
    · obtain ⟨r, H2, os2, bare2, un2, hok2, rv, er, dx, ne, nd, e2⟩ := z
      subst er
      obtain ⟨h2, g2, d2, t2, os'⟩ := s'
      subst e2
      refine ⟨rv, mk_endN (raises_own T.ex ty) I1 big keep un2 hok2 os2 bare2 ((upd_ne ne.symm).trans upd_same) upd_same ((upd_ne ne).symm.trans nd) ?_⟩
      rw [del_made2 na ne]
      exact q1 dx ((upd_ne ne).symm.trans nd)
/-- raise C(e, e2) -/
theorem ps_raise2N {W : WX} {t : TA} {rp : Pos} (hc : X.calm = true) (tk : L2N.Takes X W) (T : XIn X.K C fI) (ty : PySem.W.typeIn X.K (.ref C) = some (.type "type")) (F : FnOk X.prog X.w X.K X.mg X.base CX0 1 fI fd ["self", f1, f2] (spI2 C f1 f2)) (hr : Room 2 X.A)
    (hb : XB X.K fd ["self", f1, f2] [] (fun us _ => us) (fun vs _ => vs)) (hg : Gl X x) (hm : X.mg x = some (.ref C)) (ha : PA X [e, e2] t)
    (hdb : (x == ("__debug__" : Str)) = false := by decide) (hst : starEach [e, e2] X.env = (false, eval e X.env) :: starEach [e2] X.env := by rfl) (hpl : (backTo pos (starEach [e2] X.env)).any (·.1) = false := by rfl) :
    PS X (.Raise (some (.Call (.Name x p) [e, e2] [] pos)) none rp) (fun _ σ H => tMk2 C f1 f2 t σ H fun cls d H' => W cls d σ H') :=
  L2N.ps_raise hc tk (pmk_x2N T ty F hr hb hg hm ha hdb hst hpl)
end
end Xl

-- N
namespace My
open PySem PySem.Spec PyProof.Rows L2 Gy Xl Xs Xt
/-! ### links are joined -/
/-- all but the lists of neighbours stands -/
def Off (ns : List Str) (ad : Str → Addr) (H H' : Hp) : Prop := ∀ b o, (∀ x ∈ ns, b ≠ ad x) → H b = some o → H' b = some o
theorem Off.same {ns : List Str} {ad : Str → Addr} {Hc H H' : Hp} (s : Same Hc H) (n : ∀ x ∈ ns, Hc (ad x) = none) (o : Off ns ad H H') : Same Hc H' := fun b u e => o b u (fun x hx z => by rw [z, n x hx] at e; cases e) (s b u e)
section
variable {P : Program} {w : World} {K : PySem.W.Frag} {mg : Str → Option Value} {base : Heap} {H : Hp}
def spJoin (K : PySem.W.Frag) (C : Addr) : Sp := fun vs H Q E => ∃ (La : Addr) (v : V) (d : PyData) (ns : List Str) (ls : List (Str × Str)) (ad : Str → Addr), vs = [.ref La, v] ∧ Gr H La ns (adj ls) ad ∧ (∀ x ∈ ns, Nm x) ∧ (∀ p ∈ ls, p.1 ∈ ns ∧ p.2 ∈ ns) ∧ ns.length ≤ 1000 ∧ ls.length ≤ 1000 ∧ Dn K H v d ∧ sml d = true ∧
  (linkD ns d = none → Rf K E C ("link", d) H) ∧
  ∀ p, linkD ns d = some p → (p.2 ∈ adj ls p.1 → Rf K E C ("duplicate", d) H) ∧ (p.2 ∉ adj ls p.1 → rcB ls p.1 p.2 = true → Rf K E C ("cycle", d) H) ∧
    (p.2 ∉ adj ls p.1 → rcB ls p.1 p.2 = false → ∀ H', Off ns ad H H' → Gr H' La ns (adj (ls ++ [p])) ad → Q .non H')
theorem ok_join {f C : Addr} {fd : FuncData} (F : Fun K "join_ends" "join_ends" s_join_ends f fd) (Y : Bn mg) (R : Rz2 P w K mg base "InvalidTree" "reason" "value" C) (G_is_pair_of_hosts : Fk P w K mg base CX0 4 "is_pair_of_hosts" ["linked", "value"] (spPair K))
    (G_steps_towards : Fk P w K mg base CX0 1 "steps_towards" ["linked", "goal"] spSt) : FnOk P w K mg base (L2N.CX P w) 5 f fd ["linked", "link"] (spJoin K C) := by
  obtain ⟨fI, fdI, XI, GI, bI⟩ := R.ex
  refine okXN F sc_join_ends (fun vs H Q E h => ?_) (fun cdv A outer s H vs Q E hr h => ?_)
  · obtain ⟨La, v, d, ns, ls, ad, rfl, _⟩ := h
    rfl
  · obtain ⟨La, v, d, ns, ls, ad, rfl, g, nm, en, l1, l2, dn, sm, q1, q2⟩ := h
    have hu1 := Nat.lt_of_le_of_lt (Nat.add_le_add_left (show 1 ≤ 64 by decide) _) hr.units
    refine ⟨_, (pss_cons (ps_if (pt_not (pt_val (pe_callF G_is_pair_of_hosts (hr.mono (by decide)) (by rfl) pass0 (pa_cons (pv 0) (pa_cons (pv 1) pa_nil)))))
 (pss_one (ps_raise2N rfl (L2N.takes_of rfl rfl rfl rfl) XI R.ty GI (hr.mono (by decide)) bI (by rfl) R.gm (pa_cons pe_str (pa_cons (pv 1) pa_nil))))
 pss_nil)
 (pss_cons (ps_asg (pv 1) (pg_tup (by rfl) (pgs_cons (pg_name (i := 2) sc_join_ends.nd rfl (Or.inl rfl)) (pgs_cons (pg_name (i := 3) sc_join_ends.nd rfl (Or.inl rfl)) pgs_nil))))
 (pss_cons (ps_if (pt_cmpR op_in_seq (pv 3) (pe_dget hu1 (pv 0) (pv 2) (fun _ _ => rfl)) rfl)
 (pss_one (ps_raise2N rfl (L2N.takes_of rfl rfl rfl rfl) XI R.ty GI (hr.mono (by decide)) bI (by rfl) R.gm (pa_cons pe_str (pa_cons (pv 1) pa_nil))))
 pss_nil)
 (pss_cons (ps_if (pt_cmp (pc_din hu1 (pv 3) (pe_callF G_steps_towards (hr.mono (by decide)) (by rfl) pass0 (pa_cons (pv 0) (pa_cons (pv 2) pa_nil)))))
 (pss_one (ps_raise2N rfl (L2N.takes_of rfl rfl rfl rfl) XI R.ty GI (hr.mono (by decide)) bI (by rfl) R.gm (pa_cons pe_str (pa_cons (pv 1) pa_nil))))
 pss_nil)
 (pss_cons (ps_expr (pe_bm PySem.F.plainAttrs_list PySem.F.slot_list_append PySem.F.type_list_append mt_append (pe_dget hu1 (pv 0) (pv 2) (fun _ _ => rfl)) (pa_cons (pv 3) pa_nil)))
 (pss_one (ps_expr (pe_bm PySem.F.plainAttrs_list PySem.F.slot_list_append PySem.F.type_list_append mt_append (pe_dget hu1 (pv 0) (pv 3) (fun _ _ => rfl)) (pa_cons (pv 2) pa_nil))))))))), ?_⟩
    refine ⟨_, rfl, _, rfl, La, v, d, ns, _, ad, rfl, g, nm, dn, sm, fun H1 s1 => ⟨_, rfl, ?_⟩⟩
    cases c : linkD ns d with
    | none => exact iteT ⟨_, rfl, _, _, rfl, fun dx nd => (q1 c).ro dn _ dx (s1.trans (same_upd nd)) upd_same⟩
    | some p =>
      refine iteF ?_
      obtain ⟨q3, q4, q5⟩ := q2 p c
      obtain ⟨rfl, ha, hb, ne⟩ := linkD_some c
      obtain ⟨a, b⟩ := p
      have ha : a ∈ ns := ha
      have hb : b ∈ ns := hb
      have ne : a ≠ b := ne
      cases dn with
      | @tup t xs _ tz dd =>
        cases dd with
        | @cons v1 _ _ _ h1 dd =>
        cases dd with
        | @cons v2 _ _ _ h2 dd =>
          cases dd
          cases h1
          cases h2
          have g1 := g.same s1
          refine ⟨_, rfl, t, _, rfl, (tz.same s1).sq, rfl, _, _, rfl, _, _, rfl, rfl, ?_⟩
          have gd : DGet H1 La (.str a) (some (.ref (ad a))) := by
            have z := DGet.k (k := Sum.inr a) g1.at_
            rw [gkv_val, if_pos ha] at z
            exact z
          have gdb : DGet H1 La (.str b) (some (.ref (ad b))) := by
            have z := DGet.k (k := Sum.inr b) g1.at_
            rw [gkv_val, if_pos hb] at z
            exact z
          refine ⟨_, rfl, _, rfl, _, rfl, La, _, rfl, gd, ad a, _, rfl, .inl (SqL.of (g1.nb a ha)), rfl, flat_strs _, _, rfl, ?_⟩
          have ei : (if false = true then !inV (.str b) ((adj ls a).map V.str) else inV (.str b) ((adj ls a).map V.str)) = decide (b ∈ adj ls a) := by
            rw [if_neg Bool.false_ne_true, inV_strs]
          refine ite2 (fun c1 => ?_) (fun c1 => ?_)
          · have c2 : b ∈ adj ls a := of_decide_eq_true (ei ▸ c1)
            exact ⟨_, rfl, _, _, rfl, fun dx nd => (q3 c2).ro (.tup tz (.cons (.str _) (.cons (.str _) .nil))) _ dx (s1.trans (same_upd nd)) upd_same⟩
          have c2 : b ∉ adj ls a := fun z => c1 (ei.trans (decide_eq_true z))
          have cl : ∀ x ∈ ns, ∀ y ∈ adj ls x, y ∈ ns := fun x hx y hy => by
            obtain ⟨p, hp, ⟨e1, e2⟩ | ⟨e1, e2⟩⟩ := adj_mem.mp hy
            · rw [e2]
              exact (en p hp).2
            · rw [e2]
              exact (en p hp).1
          refine ⟨_, rfl, _, rfl, _, rfl, La, a, ns, adj ls, ad, rfl, g1, ha, cl, l1, fun H2 D m s2 nD eD sp _ => ?_⟩
          refine ⟨D, _, rfl, DGet.k (k := Sum.inr b) eD, _, rfl, ?_⟩
          rw [mkv_val, span_dec (fun _ _ => Iff.rfl) sp]
          have s02 := s1.trans s2
          cases c3 : rcB ls a b with
          | true => exact iteT ⟨_, rfl, _, _, rfl, fun dx nd => (q4 c2 c3).ro (.tup tz (.cons (.str _) (.cons (.str _) .nil))) _ dx (s02.trans (same_upd nd)) upd_same⟩
          | false =>
            refine iteF ?_
            have g2 := g1.same s2
            have gd : DGet H2 La (.str a) (some (.ref (ad a))) := by
              have z := DGet.k (k := Sum.inr a) g2.at_
              rw [gkv_val, if_pos ha] at z
              exact z
            have nab : ad a ≠ ad b := fun z => ne (g.inj a ha b hb z)
            have nLa : ∀ x ∈ ns, La ≠ ad x := fun x hx => ne_of g.at_ (g.nb x hx) (by intro z; cases z)
            have le1 : ((adj ls a).map V.str).length < sizeLine := by
              rw [List.length_map]
              exact Nat.lt_of_le_of_lt (Nat.le_trans (adj_len ls a) l2) (by decide)
            refine ⟨_, rfl, _, rfl, La, _, rfl, gd, .inl ⟨rfl, _, SqL.of (g2.nb a ha)⟩, _, rfl, ad a, _, _, rfl, rfl, g2.nb a ha, le1, ?_⟩
            generalize hg : upd H2 (ad a) _ = H3
            have h3a : H3 (ad a) = some (.lst (((adj ls a) ++ [b]).map V.str)) := by
              rw [← hg, upd_same, List.map_append]
              rfl
            have h3o : ∀ c, c ≠ ad a → H3 c = H2 c := fun c n => by rw [← hg, upd_ne n]
            clear hg
            have gdb : DGet H3 La (.str b) (some (.ref (ad b))) := by
              have z := DGet.k (k := Sum.inr b) (H := H3) (a := La) (by rw [h3o _ (nLa a ha)]; exact g2.at_)
              rw [gkv_val, if_pos hb] at z
              exact z
            have le2 : ((adj ls b).map V.str).length < sizeLine := by
              rw [List.length_map]
              exact Nat.lt_of_le_of_lt (Nat.le_trans (adj_len ls b) l2) (by decide)
            have h3b : H3 (ad b) = some (.lst ((adj ls b).map V.str)) := by
              rw [h3o _ nab.symm]
              exact g2.nb b hb
            refine ⟨_, rfl, _, rfl, La, _, rfl, gdb, .inl ⟨rfl, _, SqL.of h3b⟩, _, rfl, ad b, _, _, rfl, rfl, h3b, le2, ?_⟩
            refine q5 c2 c3 _ (fun c o n e => ?_) ⟨?_, fun x hx => ?_, g.inj, g.nd⟩
            · rw [upd_ne (n b hb), h3o _ (n a ha)]
              exact s02 _ _ e
            · rw [upd_ne (nLa b hb), h3o _ (nLa a ha)]
              exact g2.at_
            · rw [adj_app, adj_one]
              by_cases xb : x = b
              · subst xb
                rw [upd_same, if_neg (show ¬ x = a from fun z => ne z.symm), if_pos (show x = x from rfl), List.map_append]
                rfl
              · rw [upd_ne fun z => xb (g.inj x hx b hb z)]
                by_cases xa : x = a
                · subst xa
                  rw [h3a, if_pos (show x = x from rfl)]
                · rw [h3o _ fun z => xa (g.inj x hx a ha z), if_neg (show ¬ x = a from xa), if_neg (show ¬ x = b from xb), List.append_nil]
                  exact g2.nb x hx
def spJoins (K : PySem.W.Frag) (C : Addr) : Sp := fun vs H Q E => ∃ (La : Addr) (lv : V) (dl : PyData) (ns : List Str) (ad : Str → Addr) (Hc : Hp), vs = [.ref La, lv] ∧ Same Hc H ∧ (∀ x ∈ ns, Hc (ad x) = none) ∧ Gr H La ns (adj []) ad ∧ (∀ x ∈ ns, Nm x) ∧ ns.length ≤ 1000 ∧
  Dn K Hc lv dl ∧ (∀ ds, seqD dl = some ds → ds.length ≤ 60 ∧ ∀ d ∈ ds, sml d = true) ∧
  (∀ e, linksQ ns dl = .inr e → Rf K E C e Hc) ∧ ∀ ls, linksQ ns dl = .inl ls → ∀ H', Same Hc H' → Off ns ad H H' → (∀ p ∈ ls, p.1 ∈ ns ∧ p.2 ∈ ns) → ls.length ≤ 60 → Gr H' La ns (adj ls) ad → Q .non H'
theorem seq_or {v : V} {d : PyData} (h : Dn K H v d) : (∃ a xs ds, v = .ref a ∧ d = .list ds ∧ H a = some (.lst xs) ∧ Dns K H xs ds) ∨ (∃ a xs ds, v = .ref a ∧ d = .tuple ds ∧ Tz H a xs ∧ Dns K H xs ds) ∨ (seqD d = none ∧ ∃ t, (∀ H', Same H H' → TyX K H' v (.type t)) ∧ kitB t "list" = some false ∧ kitB t "tuple" = some false) := by
  cases h with
  | non => exact .inr (.inr ⟨rfl, _, fun _ _ => .base .non, by decide +kernel, by decide +kernel⟩)
  | bl b => exact .inr (.inr ⟨rfl, _, fun _ _ => .base (.bl b), by decide +kernel, by decide +kernel⟩)
  | int i => exact .inr (.inr ⟨rfl, _, fun _ _ => .base (.int i), by decide +kernel, by decide +kernel⟩)
  | str x => exact .inr (.inr ⟨rfl, _, fun _ _ => .base (.str x), by decide +kernel, by decide +kernel⟩)
  | lst e t => exact .inl ⟨_, _, _, rfl, rfl, e, t⟩
  | tup e t => exact .inr (.inl ⟨_, _, _, rfl, rfl, e, t⟩)
  | dic e => exact .inr (.inr ⟨rfl, _, fun _ s => .base (.dK (s _ _ e)), by decide +kernel, by decide +kernel⟩)
theorem drop_at {α : Type} {ds : List α} {i : Nat} {d : α} (h : ds[i]? = some d) : ds.drop i = d :: ds.drop (i + 1) := by
  obtain ⟨hi, e⟩ := List.getElem?_eq_some_iff.mp h
  rw [List.drop_eq_getElem_cons hi, e]
theorem cls2 : Paired ClsV [.ty "list", .ty "tuple"] [.type "list", .type "tuple"] := .cons (.ty _) (.cons (.ty _) .nil)
theorem ok_joins {f C : Addr} {fd : FuncData} (F : Fun K "join_all" "join_all" s_join_all f fd) (Y : Bn mg) (R : Rz2 P w K mg base "InvalidTree" "reason" "value" C) (G_join_ends : Fk P w K mg base (L2N.CX P w) 5 "join_ends" ["linked", "link"] (spJoin K C)) :
    FnOk P w K mg base (L2N.CX P w) 6 f fd ["linked", "links"] (spJoins K C) := by
  obtain ⟨fI, fdI, XI, GI, bI⟩ := R.ex
  refine okXN F sc_join_all (fun vs H Q E h => ?_) (fun cdv A outer s H vs Q E hr h => ?_)
  · obtain ⟨La, lv, dl, ns, ad, Hc, rfl, _⟩ := h
    rfl
  · obtain ⟨La, lv, dl, ns, ad, Hc, rfl, sc, nad, g, nm, l1, dn, bd, q1, q2⟩ := h
    refine ⟨_, (pss_cons (ps_if (pt_not (pt_val (pe_callB call_isiT (by rfl) Y.isinstance (by decide +kernel) (pa_cons (pv 1) (pa_cons (pe_tup (pa_cons (pe_bltn (v := .ty "list") (by rfl) Y.list (by decide +kernel) rfl) (pa_cons (pe_bltn (v := .ty "tuple") (by rfl) Y.tuple (by decide +kernel) rfl) pa_nil))) pa_nil)))))
 (pss_one (ps_raise2N rfl (L2N.takes_of rfl rfl rfl rfl) XI R.ty GI (hr.mono (by decide)) bI (by rfl) R.gm (pa_cons pe_str (pa_cons (pv 1) pa_nil))))
 pss_nil)
 (pss_one (ps_for (passes_of rfl) rfl (pi_or (pi_list (pv 1)) (pi_tup (pv 1))) (pg_name (i := 2) sc_join_all.nd rfl (Or.inl rfl))
 (pss_one (ps_expr (pe_callF G_join_ends (hr.mono (by decide)) (by rfl) (L2N.passes_call (E := E) (L2N.takes_of rfl rfl rfl rfl) (fun _ _ _ _ h => h)) (pa_cons (pv 0) (pa_cons (pv 2) pa_nil)))))))), ?_⟩
    refine ⟨_, rfl, (by show 2 ≤ sizeLine; decide), fun T nT => ?_⟩
    have s1 := sc.trans (same_upd (o := .tup [.ty "list", .ty "tuple"]) nT)
    have g1 := g.same (same_upd (o := .tup [.ty "list", .ty "tuple"]) nT)
    have o1 : Off ns ad H (upd H T (.tup [.ty "list", .ty "tuple"])) := fun b o _ e => same_upd nT _ _ e
    have eT : (upd H T (.tup [.ty "list", .ty "tuple"])) T = some (.tup [.ty "list", .ty "tuple"]) := upd_same
    rcases seq_or dn with ⟨a, xs, ds, rfl, rfl, ha, hd⟩ | ⟨a, xs, ds, rfl, rfl, ha, hd⟩ | ⟨no, t, ty, k1, k2⟩
    case' inr.inr =>
      have nl : linksQ ns dl = .inr ("links", dl) := by
        unfold linksQ
        rw [no]
      refine ⟨_, T, _, _, _, false, rfl, eT, cls2, ty _ s1, kit_any2 k1 k2, _, rfl, iteT ?_⟩
      exact ⟨_, rfl, _, _, rfl, fun dx nd => (q1 _ nl).ro dn _ dx (s1.trans (same_upd nd)) upd_same⟩
    case' inl =>
      have lq : linksQ ns (.list ds) = joinF ns [] ds := rfl
      refine ⟨_, T, _, _, _, true, rfl, eT, cls2, .base (.lst (s1 _ _ ha)), kit_any2 (t := "list") (r1 := true) (r2 := false) (by decide +kernel) (by decide +kernel), _, rfl, iteF ?_⟩
      have W : Walk (Itl K a) xs.length (fun H => Same Hc H) (YAt xs) := (walk_list (K := K) (a := a) (xs := xs)).mono (fun H s => SqL.of (s _ _ ha)) fun _ _ _ _ _ _ y => y
      refine .inl ⟨_, rfl, a, rfl, ⟨_, SqL.of (s1 _ _ ha)⟩, ?_⟩
    case' inr.inl =>
      have lq : linksQ ns (.tuple ds) = joinF ns [] ds := rfl
      refine ⟨_, T, _, _, _, true, rfl, eT, cls2, (ha.same s1).ty, kit_any2 (t := "tuple") (r1 := false) (r2 := true) (by decide +kernel) (by decide +kernel), _, rfl, iteF ?_⟩
      have W : Walk (Itt K a) xs.length (fun H => Same Hc H) (YAt xs) := (walk_tup (K := K) (a := a) (xs := xs)).mono (fun H s => (ha.same s).sq) fun _ _ _ _ _ _ y => y
      refine .inr ⟨_, rfl, a, rfl, ⟨_, (ha.same s1).sq⟩, ?_⟩
    all_goals
      obtain ⟨bd1, bd2⟩ := bd ds rfl
      have el := Dns.len hd
      refine for_it W (fun i σ H' => ∃ a2, σ = [some (.ref La), some (.ref a), a2] ∧ Same Hc H' ∧ Off ns ad H H' ∧ ∃ ls, joinF ns [] ds = joinF ns ls (ds.drop i) ∧ Gr H' La ns (adj ls) ad ∧ (∀ p ∈ ls, p.1 ∈ ns ∧ p.2 ∈ ns) ∧ ls.length ≤ i)
        ⟨none, rfl, s1, o1, [], rfl, g1, (fun _ z => nomatch z), Nat.le_refl _⟩ (fun i σ' H' _ h => by obtain ⟨_, _, s, _⟩ := h; exact s) ?_ ?_
      · rintro i y σ' H2 H3 hi ⟨a2, rfl, s2, o2, ls, ej, g2, en, ll⟩ ⟨rfl, hy⟩
        obtain ⟨d, hdi, dd⟩ := Dns.get hd hy
        have md := List.mem_of_getElem? hdi
        rw [drop_at hdi, joinF_c] at ej
        refine ⟨_, rfl, _, rfl, La, y, d, ns, ls, ad, rfl, g2, nm, en, l1, by omega, dd.same s2, bd2 d md, fun c => ?_, fun p c => ⟨fun c2 => ?_, fun c2 c3 => ?_, fun c2 c3 H4 o4 g4 => ?_⟩⟩
        · rw [c] at ej
          exact (q1 _ (lq.trans ej)).same s2
        · rw [c] at ej
          dsimp only at ej
          rw [if_pos c2] at ej
          exact (q1 _ (lq.trans ej)).same s2
        · rw [c] at ej
          dsimp only at ej
          rw [if_neg c2, if_pos c3] at ej
          exact (q1 _ (lq.trans ej)).same s2
        · rw [c] at ej
          dsimp only at ej
          rw [if_neg c2, if_neg (by rw [c3]; decide)] at ej
          obtain ⟨_, m1, m2, _⟩ := linkD_some c
          refine ⟨_, rfl, o4.same s2 nad, fun b o n e => o4 b o n (o2 b o n e), ls ++ [p], ej, g4, fun z hz => ?_, by rw [List.length_append]; exact Nat.succ_le_succ ll⟩
          rcases List.mem_append.mp hz with hz | hz
          · exact en z hz
          · rw [List.mem_singleton.mp hz]
            exact ⟨m1, m2⟩
      · rintro σ' H2 ⟨a2, rfl, s2, o2, ls, ej, g2, en, ll⟩
        rw [el, List.drop_of_length_le (Nat.le_refl _)] at ej
        exact q2 ls (lq.trans ej) _ s2 o2 en (by omega) g2
end
end My

-- N
namespace My
open PySem PySem.Spec PyProof.Rows L2 Gy Xl Xs Xt
/-! ### hosts without links -/
theorem gkv_snoc {ns : List Str} {ad : Str → Addr} {x : Str} {l : Addr} (h : x ∉ ns) : putK (gkv ns ad) (.inr x) (.ref l) = gkv (ns ++ [x]) fun y => if y = x then l else ad y := by
  rw [putK_new _ (by rw [gkv_val, if_neg h])]
  unfold gkv
  rw [List.map_append]
  congr 1
  · refine List.map_congr_left fun y hy => ?_
    dsimp only
    rw [if_neg fun z : y = x => h (by rw [← z]; exact hy)]
  · show _ = [(Sum.inr x, V.ref (if x = x then l else ad x))]
    rw [if_pos rfl]
theorem nameD_some {d : PyData} {x : Str} (h : nameD d = some x) : d = .str x ∧ isHost d = true := by
  cases d with
  | str y =>
    have h' : (if isHost (.str y) = true then some y else none) = some x := h
    by_cases c : isHost (.str y) = true
    · rw [if_pos c] at h'
      cases h'
      exact ⟨rfl, c⟩
    · rw [if_neg c] at h'
      cases h'
  | _ => cases h
theorem nameD_none {d : PyData} (h : nameD d = none) : isHost d = false := by
  cases d with
  | str y =>
    have h' : (if isHost (.str y) = true then some y else none) = none := h
    by_cases c : isHost (.str y) = true
    · rw [if_pos c] at h'
      cases h'
    · exact Bool.eq_false_iff.mpr c
  | _ => rfl
section
variable {P : Program} {w : World} {K : PySem.W.Frag} {mg : Str → Option Value} {base : Heap} {H : Hp}
def spUnl (K : PySem.W.Frag) (C : Addr) : Sp := fun vs H Q E => ∃ (hv : V) (dh : PyData), vs = [hv] ∧ Dn K H hv dh ∧ (∀ ds, seqD dh = some ds → ds.length ≤ 60 ∧ ∀ d ∈ ds, sml d = true) ∧
  (∀ e, hostsQ dh = .inr e → Rf K E C e H) ∧ ∀ ns, hostsQ dh = .inl ns → ∀ H' La ad, Same H H' → H La = none → (∀ x ∈ ns, H (ad x) = none) → Gr H' La ns (adj []) ad → (∀ x ∈ ns, Nm x) → ns ≠ [] → ns.length ≤ 60 → Q (.ref La) H'
theorem ok_unl {f C : Addr} {fd : FuncData} (F : Fun K "unlinked_hosts" "unlinked_hosts" s_unlinked_hosts f fd) (Y : Bn mg) (R : Rz2 P w K mg base "InvalidTree" "reason" "value" C) (G_is_host_name : Fk P w K mg base CX0 2 "is_host_name" ["value"] (spHost K)) :
    FnOk P w K mg base (L2N.CX P w) 4 f fd ["hosts"] (spUnl K C) := by
  obtain ⟨fI, fdI, XI, GI, bI⟩ := R.ex
  refine okXN F sc_unlinked_hosts (fun vs H Q E h => ?_) (fun cdv A outer s H vs Q E hr h => ?_)
  · obtain ⟨hv, dh, rfl, _⟩ := h
    rfl
  · obtain ⟨hv, dh, rfl, dn, bd, q1, q2⟩ := h
    have hu1 := Nat.lt_of_le_of_lt (Nat.add_le_add_left (show 1 ≤ 64 by decide) _) hr.units
    refine ⟨_, (pss_cons (ps_if (PW.pt (pw_or (pt_not (pt_val (pe_callB call_isiT (by rfl) Y.isinstance (by decide +kernel) (pa_cons (pv 0) (pa_cons (pe_tup (pa_cons (pe_bltn (v := .ty "list") (by rfl) Y.list (by decide +kernel) rfl) (pa_cons (pe_bltn (v := .ty "tuple") (by rfl) Y.tuple (by decide +kernel) rfl) pa_nil))) pa_nil))))) (pw_or1 (pt_cmpR op_eq (pe_callB call_len_seq (by rfl) Y.len PySem.boot_len (pa_cons (pv 0) pa_nil)) pe_int (nomark _)))))
 (pss_one (ps_raise2N rfl (L2N.takes_of rfl rfl rfl rfl) XI R.ty GI (hr.mono (by decide)) bI (by rfl) R.gm (pa_cons pe_str (pa_cons (pv 0) pa_nil))))
 pss_nil)
 (pss_cons (ps_set (i := 1) sc_unlinked_hosts.nd rfl (.inl rfl) pe_dnewK)
 (pss_cons (ps_for (passes_of rfl) rfl (pi_or (pi_list (pv 0)) (pi_tup (pv 0))) (pg_name (i := 2) sc_unlinked_hosts.nd rfl (Or.inl rfl))
 (pss_cons (ps_if (pt_not (pt_val (pe_callF G_is_host_name (hr.mono (by decide)) (by rfl) pass0 (pa_cons (pv 2) pa_nil))))
 (pss_one (ps_raise2N rfl (L2N.takes_of rfl rfl rfl rfl) XI R.ty GI (hr.mono (by decide)) bI (by rfl) R.gm (pa_cons pe_str (pa_cons (pv 2) pa_nil))))
 pss_nil)
 (pss_cons (ps_if (pt_cmp (pc_din hu1 (pv 2) (pv 1)))
 (pss_one (ps_raise2N rfl (L2N.takes_of rfl rfl rfl rfl) XI R.ty GI (hr.mono (by decide)) bI (by rfl) R.gm (pa_cons pe_str (pa_cons (pv 2) pa_nil))))
 pss_nil)
 (pss_one (ps_dput hu1 (pv 1) (pv 2) (pe_lst pa_nil) rfl)))))
 (pss_one (ps_ret (pv 1)))))), ?_⟩
    refine ⟨_, rfl, (by show 2 ≤ sizeLine; decide), fun T nT => ?_⟩
    have s1 := same_upd (o := .tup [.ty "list", .ty "tuple"]) nT
    have eT : (upd H T (.tup [.ty "list", .ty "tuple"])) T = some (.tup [.ty "list", .ty "tuple"]) := upd_same
    generalize upd H T (.tup [.ty "list", .ty "tuple"]) = H1 at s1 eT
    rcases seq_or dn with ⟨a, xs, ds, rfl, rfl, ha, hd⟩ | ⟨a, xs, ds, rfl, rfl, ha, hd⟩ | ⟨no, t, ty, k1, k2⟩
    case' inr.inr =>
      have nl : hostsQ dh = .inr ("hosts", dh) := by
        unfold hostsQ
        rw [no]
      refine ⟨_, T, _, _, _, false, rfl, eT, cls2, ty _ s1, kit_any2 k1 k2, _, rfl, iteT ?_⟩
      exact iteT ⟨_, rfl, _, _, rfl, fun dx nd => (q1 _ nl).ro dn _ dx (s1.trans (same_upd nd)) upd_same⟩
    case' inl =>
      refine ⟨_, T, _, _, _, true, rfl, eT, cls2, .base (.lst (s1 _ _ ha)), kit_any2 (t := "list") (r1 := true) (r2 := false) (by decide +kernel) (by decide +kernel), _, rfl, iteF ?_⟩
      have W : Walk (Itl K a) xs.length (fun H' => Same H H') (YAt xs) := (walk_list (K := K) (a := a) (xs := xs)).mono (fun H s => SqL.of (s _ _ ha)) fun _ _ _ _ _ _ y => y
      have sq : SqL K H1 a xs ∨ SqT K H1 a xs := .inl (SqL.of (s1 _ _ ha))
      have dn1 : Dn K H (.ref a) (.list ds) := dn
      have en : ∀ d es, ds = d :: es → hostsQ (.list ds) = hostsF [] ds := fun d es e => by rw [e]; rfl
      have e0 : ds = [] → hostsQ (.list ds) = .inr ("hosts", .list ds) := fun e => by rw [e]; rfl
    case' inr.inl =>
      refine ⟨_, T, _, _, _, true, rfl, eT, cls2, (ha.same s1).ty, kit_any2 (t := "tuple") (r1 := false) (r2 := true) (by decide +kernel) (by decide +kernel), _, rfl, iteF ?_⟩
      have W : Walk (Itt K a) xs.length (fun H' => Same H H') (YAt xs) := (walk_tup (K := K) (a := a) (xs := xs)).mono (fun H s => (ha.same s).sq) fun _ _ _ _ _ _ y => y
      have sq : SqL K H1 a xs ∨ SqT K H1 a xs := .inr (ha.same s1).sq
      have dn1 : Dn K H (.ref a) (.tuple ds) := dn
      have en : ∀ d es, ds = d :: es → hostsQ (.tuple ds) = hostsF [] ds := fun d es e => by rw [e]; rfl
      have e0 : ds = [] → hostsQ (.tuple ds) = .inr ("hosts", .tuple ds) := fun e => by rw [e]; rfl
    all_goals
      obtain ⟨bd1, bd2⟩ := bd ds rfl
      have el := Dns.len hd
      refine ⟨_, rfl, a, _, rfl, sq, rfl, _, rfl, ite2 (fun c => ?_) (fun c => ?_)⟩
      · have z : V.int (xs.length : Int) = V.int 0 := of_decide_eq_true c
        injection z with z
        have hz : ds = [] := List.length_eq_zero_iff.mp (by omega)
        exact ⟨_, rfl, _, _, rfl, fun dx nd => (q1 _ (e0 hz)).ro dn1 _ dx (s1.trans (same_upd nd)) upd_same⟩
      have ne : ds ≠ [] := fun z => c (decide_eq_true (by rw [el, z]; rfl))
      obtain ⟨d0, es0, ee⟩ := List.exists_cons_of_ne_nil ne
      have hq := en d0 es0 ee
      refine fun La nLa => ?_
      have nLa0 : H La = none := by
        cases z : H La with
        | none => rfl
        | some o => rw [s1 _ _ z] at nLa; cases nLa
      have g0 : Gr (upd H1 La (.dK [])) La [] (adj []) fun _ => 0 := ⟨upd_same, (fun _ z => nomatch z), (fun _ z => nomatch z), List.nodup_nil⟩
      first
        | refine .inl ⟨_, rfl, a, rfl, ⟨xs, SqL.of (same_upd nLa _ _ (s1 _ _ ha))⟩, ?_⟩
        | refine .inr ⟨_, rfl, a, rfl, ⟨xs, ((ha.same s1).same (same_upd nLa)).sq⟩, ?_⟩
      refine for_it W (fun i σ H' => ∃ a2, σ = [some (.ref a), some (.ref La), a2] ∧ Same H H' ∧ ∃ ns ad, hostsF [] ds = hostsF ns (ds.drop i) ∧ Gr H' La ns (adj []) ad ∧ (∀ x ∈ ns, H (ad x) = none) ∧ (∀ x ∈ ns, Nm x) ∧ ns.length = i)
        ⟨none, rfl, s1.trans (same_upd nLa), [], _, rfl, g0, (fun _ z => nomatch z), (fun _ z => nomatch z), rfl⟩ (fun i σ' H' _ h => by obtain ⟨_, _, s, _⟩ := h; exact s) ?_ ?_
      · rintro i y σ' H2 H3 hi ⟨a2, rfl, s2, ns, ad, ej, g2, na, nm, ll⟩ ⟨rfl, hy⟩
        obtain ⟨d, hdi, dd⟩ := Dns.get hd hy
        have md := List.mem_of_getElem? hdi
        rw [drop_at hdi, hostsF_c] at ej
        have ddn := dd.same s2
        refine ⟨_, rfl, y, rfl, kd_dn ddn (bd2 d md), fun H4 s4 => ?_⟩
        rw [host_dn ddn]
        refine ⟨_, rfl, ?_⟩
        cases cn : nameD d with
        | none =>
          rw [nameD_none cn]
          rw [cn] at ej
          exact iteT ⟨_, rfl, _, _, rfl, fun dx nd => (q1 _ (hq.trans ej)).ro dd _ dx ((s2.trans s4).trans (same_upd nd)) upd_same⟩
        | some x =>
          obtain ⟨rfl, ih⟩ := nameD_some cn
          rw [ih]
          rw [cn] at ej
          dsimp only at ej
          refine iteF ?_
          cases dd
          have g4 := g2.same s4
          refine ⟨_, rfl, _, rfl, La, _, rfl, DGet.k (k := Sum.inr x) g4.at_, _, rfl, ?_⟩
          rw [gkv_val]
          by_cases hx : x ∈ ns
          · rw [if_pos hx]
            rw [if_pos hx] at ej
            exact iteT ⟨_, rfl, _, _, rfl, fun dx nd => (q1 _ (hq.trans ej)).ro (.str x) _ dx ((s2.trans s4).trans (same_upd nd)) upd_same⟩
          · rw [if_neg hx]
            rw [if_neg hx] at ej
            refine iteF ?_
            refine ⟨Nat.zero_le _, fun l nl => ?_⟩
            have s04 := s2.trans s4
            have nl0 : H l = none := by
              cases z : H l with
              | none => rfl
              | some o => rw [s04 _ _ z] at nl; cases nl
            have nLl : La ≠ l := ne_of_none g4.at_ nl
            refine ⟨_, rfl, _, rfl, La, _, rfl, DPut.k (k := Sum.inr x) (by rw [upd_ne nLl]; exact g4.at_) (by unfold gkv; rw [List.length_map]; exact small200 (by omega)), ?_⟩
            rw [gkv_snoc hx]
            have le1 : i < ds.length := by omega
            refine ⟨_, rfl, same_upd2 (s04.trans (same_upd nl)) nLa0, ns ++ [x], _, ej, ⟨upd_same, fun z hz => ?_, fun z hz u hu e => ?_, nodup_snoc g2.nd hx⟩, fun z hz => ?_, fun z hz => ?_, by rw [List.length_append, ll]; rfl⟩
            · by_cases e : z = x
              · rw [if_pos e, upd_ne nLl.symm, upd_same]
                rfl
              · have hz' : z ∈ ns := (List.mem_append.mp hz).resolve_right fun w => e (List.mem_singleton.mp w)
                have h1 := g4.nb z hz'
                rw [if_neg e, upd_ne (ne_of g4.at_ h1 (by intro z; cases z)).symm, upd_ne (ne_of_none h1 nl)]
                exact h1
            · skip
              have mem : ∀ t, t ∈ ns ++ [x] → t ≠ x → t ∈ ns := fun t ht n => (List.mem_append.mp ht).resolve_right fun w => n (List.mem_singleton.mp w)
              by_cases e1 : z = x
              · by_cases e2 : u = x
                · rw [e1, e2]
                · rw [if_pos e1, if_neg e2] at e
                  exact absurd e.symm (ne_of_none (g4.nb u (mem u hu e2)) nl)
              · by_cases e2 : u = x
                · rw [if_neg e1, if_pos e2] at e
                  exact absurd e (ne_of_none (g4.nb z (mem z hz e1)) nl)
                · rw [if_neg e1, if_neg e2] at e
                  exact g2.inj z (mem z hz e1) u (mem u hu e2) e
            · by_cases e : z = x
              · rw [if_pos e]
                exact nl0
              · rw [if_neg e]
                exact na z ((List.mem_append.mp hz).resolve_right fun w => e (List.mem_singleton.mp w))
            · rcases List.mem_append.mp hz with hz | hz
              · exact nm z hz
              · rw [List.mem_singleton.mp hz]
                exact host_nm ih
      · rintro σ' H2 ⟨a2, rfl, s2, ns, ad, ej, g2, na, nm, ll⟩
        rw [el, List.drop_of_length_le (Nat.le_refl _)] at ej
        exact ⟨_, rfl, q2 ns (hq.trans ej) _ La ad s2 nLa0 na g2 nm (fun z => by subst z; rw [el] at ll; exact ne (List.length_eq_zero_iff.mp ll.symm)) (by omega)⟩
end
end My

-- N
namespace My
open PySem PySem.Spec PyProof.Rows L2 Gy Xl Xs Xt Xo Xp
/-! ### a tree is made -/
theorem gkv_keys (ns : List Str) (ad : Str → Addr) : (gkv ns ad).map (·.1) = ns.map Sum.inr := by
  unfold gkv
  rw [List.map_map]
  rfl
/-- a tree stands at p: hosts ns, neighbours f -/
structure Tr (C : Addr) (H : Hp) (p : Addr) (ns : List Str) (f : Str → List Str) : Prop where
  ex : ∃ (La dx : Addr) (ad : Str → Addr), H p = some (.ins C dx [("linked", .ref La)]) ∧ Gr H La ns f ad
theorem Tr.same {C : Addr} {H H' : Hp} {p : Addr} {ns : List Str} {f : Str → List Str} (t : Tr C H p ns f) (s : Same H H') : Tr C H' p ns f := by
  obtain ⟨La, dx, ad, h1, g⟩ := t.ex
  exact ⟨La, dx, ad, s _ _ h1, g.same s⟩
/-- what is new since Hc -/
def nw (Hc H : Hp) : Hp := fun a => match Hc a with
  | none => H a
  | some _ => none
theorem nw_at {Hc H : Hp} {a : Addr} (h : Hc a = none) : nw Hc H a = H a := by
  unfold nw
  rw [h]
theorem nw_no {Hc H : Hp} {a : Addr} {o : HO} (e : nw Hc H a = some o) : Hc a = none ∧ H a = some o := by
  unfold nw at e
  cases z : Hc a with
  | none =>
    rw [z] at e
    exact ⟨rfl, e⟩
  | some u =>
    rw [z] at e
    cases e
theorem nw_same (Hc H : Hp) : Same (nw Hc H) H := fun b o e => (nw_no e).2
theorem nw_step {Hc H H' : Hp} (h : ∀ b o, Hc b = none → H b = some o → H' b = some o) : Same (nw Hc H) (nw Hc H') := fun b o e => by
  obtain ⟨n, e⟩ := nw_no e
  rw [nw_at n]
  exact h b o n e
/-- the class of trees -/
structure Tc (K : PySem.W.Frag) (mg : Str → Option Value) (C : Addr) : Prop where
  cl : Cls K C
  nL : NoAttr K C "linked"
section
variable {P : Program} {w : World} {K : PySem.W.Frag} {mg : Str → Option Value} {base : Heap} {H : Hp}
def spConn (K : PySem.W.Frag) (C : Addr) : Sp := fun vs H Q E => ∃ (La : Addr) (ns : List Str) (ls : List (Str × Str)) (ad : Str → Addr), vs = [.ref La] ∧ Gr H La ns (adj ls) ad ∧ (∀ p ∈ ls, p.1 ∈ ns ∧ p.2 ∈ ns) ∧ ns ≠ [] ∧ ns.length < 64 ∧
  (∀ x, connF ns ls = some x → Rf K E C ("connected", .str x) H) ∧ (connF ns ls = none → ∀ H', Same H H' → Q .non H')
theorem ok_conn {f C : Addr} {fd : FuncData} (F : Fun K "check_connected" "check_connected" s_check_connected f fd) (Y : Bn mg) (R : Rz2 P w K mg base "InvalidTree" "reason" "value" C)
    (G_steps_towards : Fk P w K mg base CX0 1 "steps_towards" ["linked", "goal"] spSt) : FnOk P w K mg base (L2N.CX P w) 3 f fd ["linked"] (spConn K C) := by
  obtain ⟨fI, fdI, XI, GI, bI⟩ := R.ex
  refine okXN F sc_check_connected (fun vs H Q E h => ?_) (fun cdv A outer s H vs Q E hr h => ?_)
  · obtain ⟨La, ns, ls, ad, rfl, _⟩ := h
    rfl
  · obtain ⟨La, ns, ls, ad, rfl, g, en, ne, l64, q1, q2⟩ := h
    have hu1 := Nat.lt_of_le_of_lt (Nat.add_le_add_left (show 1 ≤ 64 by decide) _) hr.units
    refine ⟨_, (pss_cons (ps_set (i := 1) sc_check_connected.nd rfl (.inl rfl) (pe_callB (call_sortedD rfl) (by rfl) Y.sorted (by decide +kernel) (pa_cons (pv 0) pa_nil)))
 (pss_cons (ps_set (i := 2) sc_check_connected.nd rfl (.inl rfl) (pe_callF G_steps_towards (hr.mono (by decide)) (by rfl) pass0 (pa_cons (pv 0) (pa_cons (pe_ix ix_list (pv 1) pe_int (fun _ _ => rfl)) pa_nil))))
 (pss_one (ps_for (passes_of rfl) rfl (pi_list (pv 1)) (pg_name (i := 3) sc_check_connected.nd rfl (Or.inl rfl))
 (pss_one (ps_if (pt_cmp (pc_dnotin hu1 (pv 3) (pv 2)))
 (pss_one (ps_raise2N rfl (L2N.takes_of rfl rfl rfl rfl) XI R.ty GI (hr.mono (by decide)) bI (by rfl) R.gm (pa_cons pe_str (pa_cons (pv 3) pa_nil))))
 pss_nil)))))), ?_⟩
    refine ⟨_, rfl, La, gkv ns ad, ns, rfl, .inl g.at_, gkv_keys ns ad, l64, fun ys p pm so np => ?_⟩
    obtain rfl := srt_of pm so
    generalize hg : upd H p _ = H1
    have s1 : Same H H1 := by rw [← hg]; exact same_upd np
    have e1 : H1 p = some (.lst ((srt ns).map V.str)) := by rw [← hg]; exact upd_same
    clear hg
    obtain ⟨h0, t0, e0⟩ := List.exists_cons_of_ne_nil (show srt ns ≠ [] from fun z => ne (List.Perm.nil_eq (z ▸ srt_perm ns)).symm)
    have mh : h0 ∈ ns := srt_mem.mp (by rw [e0]; exact List.mem_cons_self)
    have cl : ∀ x ∈ ns, ∀ y ∈ adj ls x, y ∈ ns := fun x hx y hy => by
      obtain ⟨p, hp, ⟨e1, e2⟩ | ⟨e1, e2⟩⟩ := adj_mem.mp hy
      · rw [e2]
        exact (en p hp).2
      · rw [e2]
        exact (en p hp).1
    have cf : connF ns ls = (srt ns).find? fun x => !rcB ls h0 x := by
      unfold connF
      rw [e0]
      rfl
    refine ⟨_, rfl, _, rfl, p, _, 0, .str h0, rfl, rfl, SqL.of e1, atI_nat (j := 0) (by rw [e0]; rfl), La, h0, ns, adj ls, ad, rfl, g.same s1, mh, cl, by omega, fun H2 D m s2 nD eD sp _ => ?_⟩
    have s02 := s1.trans s2
    have lp := srt_len ns
    refine ⟨_, rfl, p, rfl, ⟨_, SqL.of (s2 _ _ e1)⟩, for_it (walk_list (K := K) (a := p) (xs := (srt ns).map V.str)) (fun i σ H' => ∃ a3, σ = [some (.ref La), some (.ref p), some (.ref D), a3] ∧ H' = H2 ∧ connF ns ls = ((srt ns).drop i).find? fun x => !rcB ls h0 x)
      ⟨none, rfl, rfl, cf⟩ (fun i σ' H' _ h => by obtain ⟨_, _, rfl, _⟩ := h; exact SqL.of (s2 _ _ e1)) ?_ ?_⟩
    · rintro i y σ' H3 H4 hi ⟨a3, rfl, rfl, ec⟩ ⟨rfl, hy⟩
      rw [List.getElem?_map] at hy
      obtain ⟨x, hx, rfl⟩ := Option.map_eq_some_iff.mp hy
      rw [drop_at hx, List.find?_cons] at ec
      refine ⟨_, rfl, _, rfl, D, _, rfl, DGet.k (k := Sum.inr x) eD, _, rfl, ?_⟩
      rw [mkv_val, span_dec (fun _ _ => Iff.rfl) sp]
      cases c : rcB ls h0 x with
      | true =>
        rw [c] at ec
        exact iteF ⟨_, rfl, rfl, ec⟩
      | false =>
        rw [c] at ec
        exact iteT ⟨_, rfl, _, _, rfl, fun dx nd => (q1 x ec).ro (.str x) _ dx (s02.trans (same_upd nd)) upd_same⟩
    · rintro σ' H3 ⟨a3, rfl, rfl, ec⟩
      rw [List.length_map, List.drop_of_length_le (Nat.le_refl _)] at ec
      exact q2 ec _ s02
def srtF (ls : List (Str × Str)) : Str → List Str := fun x => srt (adj ls x)
def spInit (K : PySem.W.Frag) (C CI : Addr) : Sp := fun vs H Q E => ∃ (p dx : Addr) (hv lv : V) (dh dl : PyData) (Hc : Hp), vs = [.ref p, hv, lv] ∧ H p = some (.ins C dx []) ∧ Same Hc H ∧ Hc p = none ∧ Dn K Hc hv dh ∧ Dn K Hc lv dl ∧ (∀ ds, seqD dh = some ds → ds.length ≤ 60 ∧ ∀ d ∈ ds, sml d = true) ∧ (∀ ds, seqD dl = some ds → ds.length ≤ 60 ∧ ∀ d ∈ ds, sml d = true) ∧
  (∀ e, treeF dh dl = .inr e → Rf K E CI e Hc) ∧ ∀ ns ls, treeF dh dl = .inl (ns, ls) → ∀ H', Same Hc H' → Tr C (nw Hc H') p (srt ns) (srtF ls) → Q .non H'
theorem ok_init {f C CI : Addr} {fd : FuncData} {dvs : List V} (F : FunD K "__init__" "Tree.__init__" (defArgs m_init) (defBody m_init) (defScope m_init) dvs [] f fd) (Y : Bn mg) (T : Tc K mg C) (G_unlinked_hosts : Fk P w K mg base (L2N.CX P w) 4 "unlinked_hosts" ["hosts"] (spUnl K CI)) (G_join_all : Fk P w K mg base (L2N.CX P w) 6 "join_all" ["linked", "links"] (spJoins K CI))
    (G_check_connected : Fk P w K mg base (L2N.CX P w) 3 "check_connected" ["linked"] (spConn K CI)) : FnOk P w K mg base (L2N.CX P w) 7 f fd ["self", "hosts", "links"] (spInit K C CI) := by
  refine F.ok (CX := L2N.CX P w) scm_init (fun vs H Q E h => ?_) (fun cdv A outer s H vs Q E hr h => ?_)
  · obtain ⟨p, dx, hv, lv, dh, dl, Hc, rfl, _⟩ := h
    rfl
  · obtain ⟨p, dx, hv, lv, dh, dl, Hc, rfl, hp, sc, np, dnh, dnl, bh, bl, q1, q2⟩ := h
    have hu1 := Nat.lt_of_le_of_lt (Nat.add_le_add_left (show 1 ≤ 64 by decide) _) hr.units
    refine ⟨_, (pss_cons (ps_set (i := 3) scm_init.nd rfl (.inr rfl) (pe_callF G_unlinked_hosts (hr.mono (by decide)) (by rfl) (L2N.passes_call (E := E) (L2N.takes_of rfl rfl rfl rfl) (fun _ _ _ _ h => h)) (pa_cons (pv 1) pa_nil)))
 (pss_cons (ps_expr (pe_callF G_join_all (hr.mono (by decide)) (by rfl) (L2N.passes_call (E := E) (L2N.takes_of rfl rfl rfl rfl) (fun _ _ _ _ h => h)) (pa_cons (pv 3) (pa_cons (pv 2) pa_nil))))
 (pss_cons (ps_expr (pe_callF G_check_connected (hr.mono (by decide)) (by rfl) (L2N.passes_call (E := E) (L2N.takes_of rfl rfl rfl rfl) (fun _ _ _ _ h => h)) (pa_cons (pv 3) pa_nil)))
 (pss_one (ps_fld (pv 0) (pe_dc (own := [("host", 4)]) (g := gName 4) (tt := tYes) rfl scm_init.nd (pi_list (pe_callB (call_sortedD rfl) (by rfl) Y.sorted (by decide +kernel) (pa_cons (pv 3) pa_nil))) (blkOk_by (N := ["self", "hosts", "links", "linked", "host"]) (sc := defScope m_init) (by decide +kernel)) (fun _ _ _ _ _ => (pg_name (i := 4) scm_init.nd rfl (Or.inl rfl))) (fun _ _ _ _ _ => pts_nil) (fun _ _ _ _ _ => (pv 4)) (fun _ _ _ _ _ => (pe_callB (show CallR _ (.builtin "sorted") (rSortedS K) from cr_sortedS) (by rfl) Y.sorted (by decide +kernel) (pa_cons (pe_dget hu1 (pv 3) (pv 4) (fun _ _ => rfl)) pa_nil)))) rfl))))), ?_⟩
    have dlH := dnl.same sc
    refine ⟨_, rfl, hv, dh, rfl, dnh.same sc, bh, fun e he => ?_, fun ns hns H1 La ad s1 nLa na g1 nm ne l1 => ?_⟩
    · refine (q1 e ?_).same sc
      unfold treeF
      rw [he]
    refine ⟨_, rfl, _, rfl, La, lv, dl, ns, ad, H, rfl, s1, na, g1, nm, by omega, dlH, bl, fun e he => ?_, fun ls hls H2 s2 _ en l2 g2 => ?_⟩
    · refine (q1 e ?_).same sc
      unfold treeF
      rw [hns]
      dsimp only
      rw [he]
    refine ⟨_, rfl, La, ns, ls, ad, rfl, g2, en, ne, by omega, fun x hx => ?_, fun hcn H3 s3 => ?_⟩
    · refine ((q1 _ ?_).same sc).same s2
      unfold treeF
      rw [hns]
      dsimp only
      rw [hls]
      dsimp only
      rw [hx]
    have ht : treeF dh dl = .inl (ns, ls) := by
      unfold treeF
      rw [hns]
      dsimp only
      rw [hls]
      dsimp only
      rw [hcn]
    have s03 := s2.trans s3
    have g3 := g2.same s3
    clear q1
    refine ⟨_, rfl, La, gkv ns ad, ns, rfl, .inl g3.at_, gkv_keys ns ad, by omega, fun ys q pm so nq => ?_⟩
    obtain rfl := srt_of pm so
    generalize hg : upd H3 q _ = H4
    have s34 : Same H3 H4 := by rw [← hg]; exact same_upd nq
    have e4 : H4 q = some (.lst ((srt ns).map V.str)) := by rw [← hg]; exact upd_same
    clear hg
    have s04 := s03.trans s34
    have g4 := g3.same s34
    have ndS : (srt ns).Nodup := srt_nd.mpr g2.nd
    refine ⟨q, rfl, ⟨_, SqL.of e4⟩, fun D nD => ?_⟩
    have tk1 : ∀ i x, (srt ns)[i]? = some x → (srt ns).take (i + 1) = (srt ns).take i ++ [x] := fun i x h => by
      rw [List.take_add_one, h]
      rfl
    refine dc_it (walk_list (K := K) (a := q) (xs := (srt ns).map V.str)) (fun i H' => Same H4 H' ∧ ∃ ad' : Str → Addr, H' D = some (.dK (gkv ((srt ns).take i) ad')) ∧ (∀ x ∈ (srt ns).take i, H' (ad' x) = some (.lst ((srt (adj ls x)).map V.str))) ∧ (∀ x ∈ (srt ns).take i, H4 (ad' x) = none ∧ ad' x ≠ D) ∧ ∀ x ∈ (srt ns).take i, ∀ y ∈ (srt ns).take i, ad' x = ad' y → x = y)
      ⟨same_upd nD, fun _ => 0, upd_same, (fun _ z => nomatch z), (fun _ z => nomatch z), (fun _ z => nomatch z)⟩ (fun i H' _ h => SqL.of (h.1 _ _ e4)) ?_ ?_
    · rintro i y H5 H6 hi ⟨s5, ad', hD, nb, fr, inj⟩ ⟨rfl, hy⟩
      rw [List.getElem?_map] at hy
      obtain ⟨x, hx, rfl⟩ := Option.map_eq_some_iff.mp hy
      have mx : x ∈ ns := srt_mem.mp (List.mem_of_getElem? hx)
      have nx : x ∉ (srt ns).take i := fun z => by
        have := tk1 i x hx
        have nd2 : ((srt ns).take (i + 1)).Nodup := ndS.sublist (List.take_sublist _ _)
        rw [this, List.nodup_append] at nd2
        exact nd2.2.2 x z x List.mem_cons_self rfl
      have g5 := g4.same s5
      have gd := DGet.k (k := Sum.inr x) g5.at_
      rw [gkv_val, if_pos mx] at gd
      refine ⟨rfl, ?_⟩
      dsimp only [tYes]
      refine iteT ?_
      refine ⟨_, rfl, _, rfl, _, rfl, La, _, rfl, gd, ad x, adj ls x, rfl, SqL.of (g5.nb x mx), ?_, fun zs r pz sz nr => ?_⟩
      · have := adj_len ls x
        omega
      obtain rfl := srt_of pz sz
      have nr4 : H4 r = none := by
        cases z : H4 r with
        | none => rfl
        | some o => rw [s5 _ _ z] at nr; cases nr
      have nDr : D ≠ r := ne_of_none hD nr
      have lt : ((srt ns).take i).length ≤ 60 := by
        rw [List.length_take, srt_len]
        omega
      refine ⟨_, .inr x, rfl, (by rw [upd_ne nDr]; exact hD), (by unfold gkv; rw [List.length_map]; exact small200 (by omega)), ?_⟩
      rw [gkv_snoc nx, tk1 i x hx]
      refine ⟨same_upd2 (s5.trans (same_upd nr)) nD, _, upd_same, fun z hz => ?_, fun z hz => ?_, fun z hz u hu e => ?_⟩
      · by_cases e : z = x
        · rw [if_pos e, upd_ne nDr.symm, upd_same, e]
        · have hz' := (List.mem_append.mp hz).resolve_right fun w => e (List.mem_singleton.mp w)
          rw [if_neg e, upd_ne (fr z hz').2, upd_ne (ne_of_none (nb z hz') nr)]
          exact nb z hz'
      · by_cases e : z = x
        · rw [if_pos e]
          exact ⟨nr4, nDr.symm⟩
        · rw [if_neg e]
          exact fr z ((List.mem_append.mp hz).resolve_right fun w => e (List.mem_singleton.mp w))
      · have mem : ∀ t, t ∈ (srt ns).take i ++ [x] → t ≠ x → t ∈ (srt ns).take i := fun t ht n => (List.mem_append.mp ht).resolve_right fun w => n (List.mem_singleton.mp w)
        by_cases e1 : z = x
        · by_cases e2 : u = x
          · rw [e1, e2]
          · rw [if_pos e1, if_neg e2] at e
            exact absurd e.symm (ne_of_none (nb u (mem u hu e2)) nr)
        · by_cases e2 : u = x
          · rw [if_neg e1, if_pos e2] at e
            exact absurd e (ne_of_none (nb z (mem z hz e1)) nr)
          · rw [if_neg e1, if_neg e2] at e
            exact inj z (mem z hz e1) u (mem u hu e2) e
    · rintro H5 ⟨s5, ad', hD, nb, fr, inj⟩
      rw [List.length_map, List.take_of_length_le (Nat.le_refl _)] at hD nb fr inj
      have hp4 : H4 p = some (.ins C dx []) := s04 _ _ hp
      have hp5 := s5 _ _ hp4
      have nDp : D ≠ p := (ne_of_none hp4 nD).symm
      refine ⟨_, rfl, p, C, dx, _, rfl, hp5, T.cl, T.nL, (by show 0 < 1000; decide), ?_⟩
      have scH4 := sc.trans s04
      have fr0 : ∀ {a : Addr}, H4 a = none → Hc a = none := fun {a} n => by
        cases z : Hc a with
        | none => rfl
        | some o => rw [scH4 _ _ z] at n; cases n
      refine q2 ns ls ht _ (same_upd2 (scH4.trans s5) np) ⟨D, dx, ad', by rw [nw_at np]; exact upd_same, (by rw [nw_at (fr0 nD), upd_ne nDp]; exact hD), fun x hx => ?_, inj, ndS⟩
      rw [nw_at (fr0 (fr x hx).1), upd_ne (ne_of hp5 (nb x hx) (by intro z; cases z)).symm]
      exact nb x hx
end
end My

namespace My
open PySem PySem.Spec PyProof.Rows L2 Gy Xl Xs Xt Xo Xp
/-! ### what a tree tells -/
/-- a method, with its promise -/
structure Fm (P : Program) (w : World) (K : PySem.W.Frag) (mg : Str → Option Value) (base : Heap) (CX : CXT) (k : Nat) (C : Addr) (nm : Str) (ps : List Str) (sp : Sp) : Prop where
  ex : ∃ (f : Addr) (fd : FuncData), Meth K C nm f ∧ Binds K fd ps [] ∧ FnOk P w K mg base CX k f fd ps sp
structure FmG (P : Program) (w : World) (K : PySem.W.Frag) (mg : Str → Option Value) (base : Heap) (CX : CXT) (k : Nat) (C : Addr) (nm : Str) (ps : List Str) (sp : Sp) : Prop where
  ex : ∃ (f : Addr) (fd : FuncData), Meth K C nm f ∧ Binds K fd ps [] ∧ FnG P w K mg base CX k f fd ps sp
theorem tz_updL {H : Hp} {a D : Addr} {xs l : List V} {o : HO} (h : Tz H a xs) (hD : H D = some (.lst l)) : Tz (upd H D o) a xs := by
  obtain ⟨u, e, c⟩ := h
  refine ⟨u, ?_, c⟩
  rw [upd_ne fun z => ?_]
  · exact e
  · rw [z, hD] at e
    cases e
theorem prs_updL {H : Hp} {D : Addr} {l : List V} {o : HO} (hD : H D = some (.lst l)) : ∀ {vs : List V} {ps : List (Str × Str)}, Prs H vs ps → Prs (upd H D o) vs ps
  | _, _, .nil => .nil
  | _, _, .cons ⟨t, e, z⟩ r => .cons ⟨t, e, tz_updL z hD⟩ (prs_updL hD r)
theorem prs_free {H : Hp} {D : Addr} {u : Obj} {kvs : List (Key × V)} {o : HO} (hD : H D = some (.frz u (.dK kvs))) : ∀ {vs : List V} {ps : List (Str × Str)}, Prs H vs ps → Prs (upd H D o) vs ps
  | _, _, .nil => .nil
  | _, _, .cons ⟨t, e, z⟩ r => by
    refine .cons ⟨t, e, ?_⟩ (prs_free hD r)
    obtain ⟨w, e, c⟩ := z
    refine ⟨w, ?_, c⟩
    rw [upd_ne fun z => ?_]
    · exact e
    · rw [z, hD] at e
      cases e
theorem prs_app {H : Hp} {vs us : List V} {ps qs : List (Str × Str)} (h : Prs H vs ps) (g : Prs H us qs) : Prs H (vs ++ us) (ps ++ qs) := by
  induction h with
  | nil => exact g
  | cons h t ih => exact .cons h ih
def lksOf (f : Str → List Str) (x : Str) : List (Str × Str) := ((f x).filter (ltS x)).map fun y => (x, y)
/-- the links, in order -/
def lks (ns : List Str) (f : Str → List Str) : List (Str × Str) := ns.flatMap (lksOf f)
theorem lks_snoc (ns : List Str) (f : Str → List Str) (x : Str) : lks (ns ++ [x]) f = lks ns f ++ lksOf f x := by
  unfold lks
  rw [List.flatMap_append]
  congr 1
  exact List.append_nil _
theorem prs_len {H : Hp} {vs : List V} {ps : List (Str × Str)} (h : Prs H vs ps) : vs.length = ps.length := by
  induction h with
  | nil => rfl
  | cons h t ih => rw [List.length_cons, List.length_cons, ih]
section
variable {P : Program} {w : World} {K : PySem.W.Frag} {mg : Str → Option Value} {base : Heap} {H : Hp} {C : Addr}
def spLen (C : Addr) : Sp := fun vs H Q _ => ∃ (p : Addr) (ns : List Str) (fn : Str → List Str), vs = [.ref p] ∧ Tr C H p ns fn ∧ ∀ H', Same H H' → Q (.int (ns.length : Int)) H'
theorem gkv_len (ns : List Str) (ad : Str → Addr) : (gkv ns ad).length = ns.length := List.length_map ..
theorem ok_len {f : Addr} {fd : FuncData} (F : Fun K "__len__" "Tree.__len__" m_len f fd) (Y : Bn mg) (T : Tc K mg C) : FnOk P w K mg base CX0 1 f fd ["self"] (spLen C) := by
  refine F.ok scm_len (fun vs H Q E h => ?_) (fun cdv A outer s H vs Q E hr h => ?_)
  · obtain ⟨p, ns, fn, rfl, _⟩ := h
    rfl
  · obtain ⟨p, ns, fn, rfl, t, q⟩ := h
    obtain ⟨La, dx, ad, hp, g⟩ := t.ex
    refine ⟨_, (pss_one (ps_ret (pe_callB call_lenD (by rfl) Y.len PySem.boot_len (pa_cons (pe_fld (pv 0) rfl) pa_nil)))), ?_⟩
    refine ⟨_, rfl, p, C, dx, _, _, rfl, hp, T.cl, T.nL, rfl, La, _, rfl, g.at_, ?_⟩
    rw [gkv_len]
    exact q _ (Same.refl _)
def spHosts (C : Addr) : Sp := fun vs H Q _ => ∃ (p : Addr) (ns : List Str) (fn : Str → List Str), vs = [.ref p] ∧ Tr C H p ns fn ∧ ∀ H' L, Same H H' → H L = none → H' L = some (.lst (ns.map V.str)) → Q (.ref L) H'
theorem ok_hosts {f : Addr} {fd : FuncData} (F : Fun K "hosts" "Tree.hosts" m_hosts f fd) (Y : Bn mg) (T : Tc K mg C) : FnOk P w K mg base CX0 1 f fd ["self"] (spHosts C) := by
  refine F.ok scm_hosts (fun vs H Q E h => ?_) (fun cdv A outer s H vs Q E hr h => ?_)
  · obtain ⟨p, ns, fn, rfl, _⟩ := h
    rfl
  · obtain ⟨p, ns, fn, rfl, t, q⟩ := h
    obtain ⟨La, dx, ad, hp, g⟩ := t.ex
    refine ⟨_, (pss_one (ps_ret (pe_callTy (call_listD rfl) (by rfl) Y.list (by decide +kernel) (pa_cons (pe_fld (pv 0) rfl) pa_nil)))), ?_⟩
    refine ⟨_, rfl, p, C, dx, _, _, rfl, hp, T.cl, T.nL, rfl, La, gkv ns ad, rfl, .inl g.at_, fun L nL => ?_⟩
    refine q _ L (same_upd nL) nL ?_
    rw [upd_same]
    unfold gkv
    rw [List.map_map]
    rfl
theorem lock_same {H H' : Hp} {d : Addr} {u : HO} {od : Obj} (h : H d = some u) (s : Same (upd H d (.frz od u)) H') : Same H (upd H' d u) := fun b o e => by
  by_cases c : b = d
  · subst c
    rw [h] at e
    cases e
    exact upd_same
  · rw [upd_ne c]
    exact s b o (by rw [upd_ne c]; exact e)
def spNb (K : PySem.W.Frag) (C U : Addr) : Sp := fun vs H Q E => ∃ (p : Addr) (v : V) (d : PyData) (ns : List Str) (fn : Str → List Str), vs = [.ref p, v] ∧ Tr C H p ns fn ∧ (∀ x ∈ ns, Nm x) ∧ Dn K H v d ∧ Kd K H v ∧
  (hostD ns d = none → Ro E U "host" v H) ∧ ∀ x, hostD ns d = some x → ∀ H' L, Same H H' → H L = none → H' L = some (.lst ((fn x).map V.str)) → Q (.ref L) H'
theorem ok_nb {f U : Addr} {fd : FuncData} (F : Fun K "neighbors" "Tree.neighbors" m_neighbors f fd) (Y : Bn mg) (T : Tc K mg C) (G_check_host : Fk P w K mg base (L2.CX P w) 4 "check_host" ["linked", "value"] (spChkH K U)) : FnOk P w K mg base (L2.CX P w) 5 f fd ["self", "host"] (spNb K C U) := by
  refine F.okX scm_neighbors (fun vs H Q E h => ?_) (fun cdv A outer s H vs Q E hr h => ?_)
  · obtain ⟨p, v, d, ns, fn, rfl, _⟩ := h
    rfl
  · obtain ⟨p, v, d, ns, fn, rfl, t, nm, dn, kd, q1, q2⟩ := h
    obtain ⟨La, dx, ad, hp, g⟩ := t.ex
    have hu1 := Nat.lt_of_le_of_lt (Nat.add_le_add_left (show 1 ≤ 64 by decide) _) hr.units
    refine ⟨_, (pss_cons (ps_expr (pe_callF G_check_host (hr.mono (by decide)) (by rfl) (passes_call (E := E) (takes_of rfl rfl rfl rfl) (fun _ _ _ _ h => h)) (pa_cons (pe_fld (pv 0) rfl) (pa_cons (pv 1) pa_nil))))
 (pss_one (ps_ret (pe_callTy call_list_of (by rfl) Y.list (by decide +kernel) (pa_cons (pe_dget hu1 (pe_fld (pv 0) rfl) (pv 1) (fun _ _ => rfl)) pa_nil))))), ?_⟩
    refine ⟨_, rfl, p, C, dx, _, _, rfl, hp, T.cl, T.nL, rfl, _, rfl, La, v, d, ns, fn, ad, rfl, g, nm, dn, kd, q1, fun x hx H1 s1 => ?_⟩
    obtain ⟨rfl, mx⟩ := hostD_some hx
    cases dn
    have g1 := g.same s1
    have gd := DGet.k (k := Sum.inr x) g1.at_
    rw [gkv_val, if_pos mx] at gd
    refine ⟨_, rfl, p, C, dx, _, _, rfl, s1 _ _ hp, T.cl, T.nL, rfl, _, rfl, La, _, rfl, gd, ad x, _, rfl, .inl (SqL.of (g1.nb x mx)), fun L nL => ?_⟩
    refine q2 x hx _ L (s1.trans (same_upd nL)) ?_ upd_same
    cases z : H L with
    | none => rfl
    | some o => rw [s1 _ _ z] at nL; cases nL
def spLinks (C : Addr) : Sp := fun vs H Q _ => ∃ (p : Addr) (ns : List Str) (fn : Str → List Str), vs = [.ref p] ∧ Tr C H p ns fn ∧ (∀ x ∈ ns, ∀ y ∈ fn x, y ∈ ns) ∧ (lks ns fn).length ≤ 1000 ∧ ∀ H' L us, Same H H' → H L = none → H' L = some (.lst us) → Prs H' us (lks ns fn) → Q (.ref L) H'
theorem ok_links {f : Addr} {fd : FuncData} (F : Fun K "links" "Tree.links" m_links f fd) (Y : Bn mg) (T : Tc K mg C) : FnOk P w K mg base CX0 1 f fd ["self"] (spLinks C) := by
  refine F.ok scm_links (fun vs H Q E h => ?_) (fun cdv A outer s H vs Q E hr h => ?_)
  · obtain ⟨p, ns, fn, rfl, _⟩ := h
    rfl
  · obtain ⟨p, ns, fn, rfl, t, cl, l1, q⟩ := h
    obtain ⟨La, dx, ad, hp, g⟩ := t.ex
    have hu1 := Nat.lt_of_le_of_lt (Nat.add_le_add_left (show 1 ≤ 64 by decide) _) hr.units
    refine ⟨_, (pss_one (ps_ret (pe_lock (pe_lc2 (tt1 := tTest (tOp _ (tVar 1) (tVar 2))) (wi1 := iList K (tDGet (tFld K (tVar 0) "linked") (tVar 1))) (own := [("one", 1), ("other", 2)]) (vs1 := [2]) (g := gName 1) (g1 := gName 2) rfl scm_links.nd (pi_keys (pe_fld (pv 0) rfl)) (blkOk_by (N := ["self", "one", "other"]) (sc := defScope m_links) (by decide +kernel)) (by decide) (fun _ _ _ _ _ => (pg_name (i := 1) scm_links.nd rfl (Or.inl rfl))) (fun _ _ _ _ _ => pts_nil) (fun _ _ _ _ _ => (pi_list (pe_dget hu1 (pe_fld (pv 0) rfl) (pv 1) (fun _ _ => rfl)))) (fun _ _ _ _ _ => (pg_name (i := 2) scm_links.nd rfl (Or.inl rfl))) (fun _ _ _ _ _ => (pts_one (pt_cmpR op_lt_str (pv 1) (pv 2) (nomark _)))) (fun _ _ _ _ _ => (pe_tupZ (pa_cons (pv 1) (pa_cons (pv 2) pa_nil)))))))), ?_⟩
    refine ⟨La, _, g.at_, True.intro, fun od => ?_⟩
    have npL : p ≠ La := ne_of hp g.at_ (by intro z; cases z)
    have hpK : (upd H La (.frz od (.dK (gkv ns ad)))) p = some (.ins C dx [("linked", .ref La)]) := by rw [upd_ne npL]; exact hp
    have hLK : (upd H La (.frz od (.dK (gkv ns ad)))) La = some (.frz od (.dK (gkv ns ad))) := upd_same
    have hnK : ∀ x ∈ ns, (upd H La (.frz od (.dK (gkv ns ad)))) (ad x) = some (.lst ((fn x).map V.str)) := fun x hx => by
      rw [upd_ne (ne_of (g.nb x hx) g.at_ (by intro z; cases z))]
      exact g.nb x hx
    generalize hk : upd H La (.frz od (.dK (gkv ns ad))) = Hk at hpK hLK hnK
    refine ⟨_, rfl, p, C, dx, _, _, rfl, hpK, T.cl, T.nL, rfl, La, od, rfl, .inl ⟨_, hLK, fun D nD => ?_⟩⟩
    have nDH : H D = none := by
      rw [← hk] at nD
      by_cases c : D = La
      · rw [c, upd_same] at nD
        cases nD
      · rw [upd_ne c] at nD
        exact nD
    have tkO : ∀ i x, ns[i]? = some x → lks (ns.take (i + 1)) fn = lks (ns.take i) fn ++ lksOf fn x := fun i x h => by
      rw [List.take_add_one, h]
      exact lks_snoc _ _ _
    have leO : ∀ i x, ns[i]? = some x → ∀ j, (lks (ns.take i) fn ++ (((fn x).take j).filter (ltS x)).map fun y => (x, y)).length ≤ 1000 := fun i x h j => by
      have e1 : ns = ns.take (i + 1) ++ ns.drop (i + 1) := (List.take_append_drop _ _).symm
      have e2 : lks ns fn = lks (ns.take (i + 1)) fn ++ lks (ns.drop (i + 1)) fn := by
        conv => lhs; rw [e1]
        exact List.flatMap_append ..
      rw [e2, tkO i x h, List.length_append, List.length_append] at l1
      have e3 : ((((fn x).take j).filter (ltS x)).map fun y => (x, y)).length ≤ (lksOf fn x).length := by
        unfold lksOf
        rw [List.length_map, List.length_map]
        exact ((List.take_sublist j (fn x)).filter _).length_le
      rw [List.length_append]
      omega
    refine lc_out (walk_keys (d := La) (o := od) (kvs := gkv ns ad)) (fun i H' => Same Hk H' ∧ ∃ us, H' D = some (.lst us) ∧ Prs H' us (lks (ns.take i) fn))
      ⟨same_upd nD, [], upd_same, .nil⟩ (fun i H' _ h => h.1 _ _ hLK) ?_ ?_
    · rintro i y H1 H2 hi ⟨s1, us, hD, pr⟩ ⟨rfl, k, v, hkv, rfl⟩
      have hkv' : (ns.map fun x => ((Sum.inr x : Key), V.ref (ad x)))[i]? = some (k, v) := hkv
      rw [List.getElem?_map] at hkv'
      obtain ⟨x, hx, ex⟩ := Option.map_eq_some_iff.mp hkv'
      cases ex
      have mx := List.mem_of_getElem? hx
      have gd : ∀ H', Same Hk H' → DGet H' La (.str x) (some (.ref (ad x))) := fun H' s' => by
        have z : DGet H' La (kV (Sum.inr x)) (valV (gkv ns ad) (Sum.inr x)) := .inl ⟨_, _, .inr ⟨od, s' _ _ hLK⟩, rfl, rfl⟩
        rw [gkv_val, if_pos mx] at z
        exact z
      refine ⟨rfl, ?_⟩
      dsimp only [tYes]
      refine iteT ?_
      refine ⟨_, rfl, p, C, dx, _, _, rfl, s1 _ _ hpK, T.cl, T.nL, rfl, _, rfl, La, _, rfl, gd _ s1, ad x, rfl, ⟨_, SqL.of (s1 _ _ (hnK x mx))⟩, ?_⟩
      refine lc_in (walk_list (K := K) (a := ad x) (xs := (fn x).map V.str)) (fun j H' => Same Hk H' ∧ ∃ us, H' D = some (.lst us) ∧ Prs H' us (lks (ns.take i) fn ++ (((fn x).take j).filter (ltS x)).map fun y => (x, y)))
        ⟨s1, us, hD, by rw [List.take_zero]; simpa using pr⟩ (fun j H' _ h => SqL.of (h.1 _ _ (hnK x mx))) ?_ ?_
      · rintro j z H3 H4 hj ⟨s3, us, hD, pr⟩ ⟨rfl, hz⟩
        rw [List.getElem?_map] at hz
        obtain ⟨y, hy, rfl⟩ := Option.map_eq_some_iff.mp hz
        have tk : (((fn x).take (j + 1)).filter (ltS x)).map (fun y => (x, y)) = (((fn x).take j).filter (ltS x)).map (fun y => (x, y)) ++ ([y].filter (ltS x)).map (fun y => (x, y)) := by
          rw [List.take_add_one, hy, List.filter_append, List.map_append]
          rfl
        refine ⟨rfl, ?_⟩
        refine ⟨_, rfl, _, rfl, _, _, rfl, rfl, _, rfl, ite2 (fun c => ?_) (fun c => ?_)⟩
        · have c1 : ltS x y = true := c
          refine ⟨_, rfl, _, rfl, (by show 2 ≤ sizeLine; decide), fun t o nt st zt => ?_⟩
          have hDt := st _ _ hD
          refine ⟨us, hDt, ?_, same_upd2 (s3.trans st) nD, us ++ [.ref t], upd_same, ?_⟩
          · rw [prs_len pr]
            exact small200 (by have := leO i x hx j; omega)
          · rw [tk, List.filter_cons, if_pos c1, ← List.append_assoc]
            exact prs_updL hDt (prs_app (pr.same st) (.cons ⟨t, rfl, zt⟩ .nil))
        · have c1 : ltS x y = false := Bool.eq_false_iff.mpr c
          refine ⟨s3, us, hD, ?_⟩
          rw [tk, List.filter_cons, if_neg (by rw [c1]; decide)]
          show Prs H4 us (_ ++ (_ ++ []))
          rw [List.append_nil]
          exact pr
      · rintro H3 ⟨s3, us, hD, pr⟩
        rw [List.length_map, List.take_of_length_le (Nat.le_refl _)] at pr
        exact ⟨s3, us, hD, by rw [tkO i x hx]; exact pr⟩
    · rintro H1 ⟨s1, us, hD, pr⟩
      rw [gkv_len, List.take_of_length_le (Nat.le_refl _)] at pr
      refine ⟨s1 _ _ hLK, q _ D us (lock_same g.at_ (hk ▸ s1)) nDH ?_ (prs_free (s1 _ _ hLK) pr)⟩
      rw [upd_ne (ne_of hD (s1 _ _ hLK) (by intro z; cases z))]
      exact hD
theorem fld_no {m : Str} {v : V} (h : (m == ("linked" : Str)) = false) : ([("linked", v)] : List (Str × V)).lookup m = none := by
  show (match m == ("linked" : Str) with
    | true => some v
    | false => none) = none
  rw [h]
/-- a tree's repr -/
def shT (ns : List Str) (f : Str → List Str) : Str := "Tree(" ++ PyData.shown (.list (ns.map PyData.str)) ++ ", " ++ PyData.shown (.list ((lks ns f).map prD)) ++ ")"
def spRep (C : Addr) : Sp := fun vs H Q _ => ∃ (p : Addr) (ns : List Str) (fn : Str → List Str), vs = [.ref p] ∧ Tr C H p ns fn ∧ (∀ x ∈ ns, ∀ y ∈ fn x, y ∈ ns) ∧ (lks ns fn).length ≤ 1000 ∧ PyData.showableAll (ns.map PyData.str) = true ∧ PyData.showableAll ((lks ns fn).map prD) = true ∧ (shT ns fn).length ≤ sizeLine ∧ ∀ H', Same H H' → Q (.str (shT ns fn)) H'
theorem dep_strs : ∀ xs : List Str, PyData.depthAll (xs.map PyData.str) ≤ 50
  | [] => Nat.zero_le _
  | x :: xs => by
    show max 0 (PyData.depthAll (xs.map PyData.str)) ≤ 50
    have := dep_strs xs
    omega
theorem dep_prs : ∀ xs : List (Str × Str), PyData.depthAll (xs.map prD) ≤ 1
  | [] => Nat.zero_le _
  | x :: xs => by
    show max 1 (PyData.depthAll (xs.map prD)) ≤ 1
    have := dep_prs xs
    omega
theorem ok_rep {f : Addr} {fd : FuncData} (F : Fun K "__repr__" "Tree.__repr__" m_repr f fd) (Y : Bn mg) (T : Tc K mg C) (M_hosts : Fm P w K mg base CX0 1 C "hosts" ["self"] (spHosts C)) (M_links : Fm P w K mg base CX0 1 C "links" ["self"] (spLinks C)) : FnG P w K mg base CX0 2 f fd ["self"] (spRep C) := by
  obtain ⟨_, _, MM_hosts, MB_hosts, MF_hosts⟩ := M_hosts.ex
  obtain ⟨_, _, MM_links, MB_links, MF_links⟩ := M_links.ex
  refine fun_g0 F scm_repr (fun {vs H Q E} h => ?_) (fun cdv A outer s H vs Q E gd hr h => ?_)
  · obtain ⟨p, ns, fn, rfl, _⟩ := h
    rfl
  · obtain ⟨p, ns, fn, rfl, t, cl, l1, sh1, sh2, len, q⟩ := h
    have hu70 := Room.units70 hr
    refine ⟨_, (pss_one (ps_ret (pe_joined (.cons pe_str (.cons (pe_fmtL gd hu70 (pe_meth0 (pv 0) T.cl MM_hosts MF_hosts (hr.mono (by decide)) MB_hosts .nil pass0)) (.cons pe_str (.cons (pe_fmtL gd hu70 (pe_meth0 (pv 0) T.cl MM_links MF_links (hr.mono (by decide)) MB_links .nil pass0)) (.cons pe_str .nil)))))))), ?_⟩
    obtain ⟨La, dx, ad, hp, g⟩ := t.ex
    have ll : (shT ns fn).length = 5 + (PyData.shown (.list (ns.map PyData.str))).length + 2 + (PyData.shown (.list ((lks ns fn).map prD))).length + 1 := by
      unfold shT
      rw [strLen_append, strLen_append, strLen_append, strLen_append]
      rfl
    rw [ll] at len
    refine ⟨_, rfl, (by show 0 + 5 ≤ sizeLine; decide), ?_⟩
    refine ⟨_, rfl, p, dx, _, rfl, hp, fld_no (by decide +kernel), p, ns, fn, rfl, t, fun H1 L s1 nL eL => ?_⟩
    refine ⟨L, _, _, rfl, eL, dns_strs ns, sh1, dep_strs ns, by omega, ?_⟩
    refine ⟨_, rfl, ?_, ?_⟩
    · rw [strLen_append]
      show 5 + _ ≤ sizeLine
      omega
    refine ⟨_, rfl, ?_, ?_⟩
    · rw [strLen_append, strLen_append]
      show 5 + _ + 2 ≤ sizeLine
      omega
    refine ⟨_, rfl, p, dx, _, rfl, s1 _ _ hp, fld_no (by decide +kernel), p, ns, fn, rfl, t.same s1, cl, l1, fun H2 L2 us s2 nL2 eL2 pr => ?_⟩
    refine ⟨L2, _, _, rfl, eL2, pr.dns, sh2, Nat.le_trans (dep_prs _) (by decide), by omega, ?_⟩
    refine ⟨_, rfl, ?_, ?_⟩
    · rw [strLen_append, strLen_append, strLen_append]
      show 5 + _ + 2 + _ ≤ sizeLine
      omega
    refine ⟨_, rfl, ?_, ?_⟩
    · rw [strLen_append, strLen_append, strLen_append, strLen_append]
      show 5 + _ + 2 + _ + 1 ≤ sizeLine
      omega
    exact q _ (s1.trans s2)
end
end My

namespace My
open PySem PySem.Spec PyProof.Rows L2 Gy Xl Xs Xt
/-! ### what is shown of few and short parts: short, and of signs only -/
theorem so_iff {x : Str} : PyData.strOk x = true ↔ ∀ c ∈ x.cps.toList, c < 0x110000 := by
  unfold PyData.strOk
  rw [← Array.all_toList, List.all_eq_true]
  exact ⟨fun h c hc => of_decide_eq_true (h c hc), fun h c hc => decide_eq_true (h c hc)⟩
theorem so_app {x y : Str} (h1 : PyData.strOk x = true) (h2 : PyData.strOk y = true) : PyData.strOk (x ++ y) = true := by
  rw [so_iff] at *
  intro c hc
  have e : (x ++ y).cps.toList = x.cps.toList ++ y.cps.toList := by
    show (x.cps ++ y.cps).toList = _
    rw [Array.toList_append]
  rw [e, List.mem_append] at hc
  rcases hc with hc | hc
  · exact h1 c hc
  · exact h2 c hc
theorem chr_lt (c : Char) : c.toNat < 0x110000 := by
  have h := c.valid
  rcases h with h | h
  · show c.val.toNat < _
    have : c.val.toNat < 0xd800 := h
    omega
  · exact h.2
theorem so_lit (s : String) : PyData.strOk (Str.ofString s) = true := by
  rw [so_iff, Str.ofString_eq_toList]
  intro c hc
  have hc' : c ∈ s.toList.map Char.toNat := hc
  obtain ⟨d, _, rfl⟩ := List.mem_map.mp hc'
  exact chr_lt d
theorem so_join {sep : Str} (hs : PyData.strOk sep = true) : ∀ {ts : List Str}, (∀ t ∈ ts, PyData.strOk t = true) → PyData.strOk (Str.join sep ts) = true
  | [], _ => by
    rw [so_iff]
    intro c hc
    exact nomatch hc
  | [x], h => h x List.mem_cons_self
  | x :: y :: ts, h => by
    show PyData.strOk (x ++ sep ++ Str.join sep (y :: ts)) = true
    exact so_app (so_app (h x List.mem_cons_self) hs) (so_join hs fun t ht => h t (List.mem_cons_of_mem _ ht))
theorem so_char {q c : Nat} (hq : q < 0x110000) (hc : c < 0x110000) : ∀ d ∈ PySem.Builtin.Str.reprChar q c, d < 0x110000 := by
  have hx : ∀ w : Nat, ∀ d ∈ List.replicate (w - ((Nat.toDigits 16 c).map Char.toNat).length) 48 ++ (Nat.toDigits 16 c).map Char.toNat, d < 0x110000 := by
    intro w d hd
    rcases List.mem_append.mp hd with hd | hd
    · rw [(List.mem_replicate.mp hd).2]
      decide
    · obtain ⟨e, _, rfl⟩ := List.mem_map.mp hd
      exact chr_lt e
  intro d hd
  unfold PySem.Builtin.Str.reprChar at hd
  dsimp only at hd
  split at hd
  · simp only [List.mem_cons, List.not_mem_nil, or_false] at hd
    rcases hd with rfl | rfl
    · decide
    · exact hc
  split at hd
  · simp only [List.mem_cons, List.not_mem_nil, or_false] at hd
    rcases hd with rfl | rfl <;> decide
  split at hd
  · simp only [List.mem_cons, List.not_mem_nil, or_false] at hd
    rcases hd with rfl | rfl <;> decide
  split at hd
  · simp only [List.mem_cons, List.not_mem_nil, or_false] at hd
    rcases hd with rfl | rfl <;> decide
  split at hd
  · rw [List.mem_singleton.mp hd]
    exact hc
  split at hd
  · rcases List.mem_append.mp hd with hd | hd
    · simp only [List.mem_cons, List.not_mem_nil, or_false] at hd
      rcases hd with rfl | rfl <;> decide
    · exact hx 2 d hd
  split at hd
  · rcases List.mem_append.mp hd with hd | hd
    · simp only [List.mem_cons, List.not_mem_nil, or_false] at hd
      rcases hd with rfl | rfl <;> decide
    · exact hx 4 d hd
  · rcases List.mem_append.mp hd with hd | hd
    · simp only [List.mem_cons, List.not_mem_nil, or_false] at hd
      rcases hd with rfl | rfl <;> decide
    · exact hx 8 d hd
theorem so_fold {q : Nat} (hq : q < 0x110000) : ∀ (l : List Nat) (a : Array Nat), (∀ c ∈ l, c < 0x110000) → (∀ c ∈ a.toList, c < 0x110000) → ∀ c ∈ (l.foldl (fun out c => out ++ (PySem.Builtin.Str.reprChar q c).toArray) a).toList, c < 0x110000
  | [], a, _, ha => ha
  | x :: l, a, hl, ha => by
    rw [List.foldl_cons]
    refine so_fold hq l _ (fun c hc => hl c (List.mem_cons_of_mem _ hc)) fun c hc => ?_
    rw [Array.toList_append, List.mem_append] at hc
    rcases hc with hc | hc
    · exact ha c hc
    · exact so_char hq (hl x List.mem_cons_self) c hc
theorem so_repr {x : Str} (h : PyData.strOk x = true) : PyData.strOk (reprText x) = true := by
  have hq : reprQuote x < 0x110000 := by
    unfold reprQuote
    split <;> decide
  rw [so_iff] at *
  intro c hc
  unfold reprText at hc
  rw [Array.toList_push, List.mem_append] at hc
  rcases hc with hc | hc
  · rw [← Array.foldl_toList] at hc
    exact so_fold hq _ _ h (fun d hd => by rw [List.mem_singleton.mp hd]; exact hq) c hc
  · rw [List.mem_singleton.mp hc]
    exact hq
mutual
/-- few and short parts, of signs only -/
def tam : PyData → Bool
  | .str x => decide (x.length ≤ 12) && PyData.strOk x
  | .int i => decide (i.natAbs < 1000)
  | .list ds => decide (ds.length ≤ 14) && tams ds
  | .tuple ds => decide (ds.length ≤ 14) && tams ds
  | .dict kvs => kvs.isEmpty
  | .none => true
  | .bool _ => true
def tams : List PyData → Bool
  | [] => true
  | d :: ds => tam d && tams ds
end
mutual
theorem tam.sml : ∀ {d : PyData}, tam d = true → My.sml d = true
  | .str x, h => by
    have h' : x.length ≤ 12 ∧ PyData.strOk x = true := by simpa only [tam, Bool.and_eq_true, decide_eq_true_eq] using h
    exact decide_eq_true (Nat.le_trans h'.1 (by decide))
  | .int i, h => h
  | .list ds, h => by
    have h' : ds.length ≤ 14 ∧ tams ds = true := by simpa only [tam, Bool.and_eq_true, decide_eq_true_eq] using h
    show (decide (ds.length ≤ 1000) && smls ds) = true
    rw [decide_eq_true (Nat.le_trans h'.1 (by decide)), tams.smls h'.2]
    rfl
  | .tuple ds, h => by
    have h' : ds.length ≤ 14 ∧ tams ds = true := by simpa only [tam, Bool.and_eq_true, decide_eq_true_eq] using h
    show (decide (ds.length ≤ 1000) && smls ds) = true
    rw [decide_eq_true (Nat.le_trans h'.1 (by decide)), tams.smls h'.2]
    rfl
  | .dict kvs, h => h
  | .none, _ => rfl
  | .bool _, _ => rfl
theorem tams.smls : ∀ {ds : List PyData}, tams ds = true → My.smls ds = true
  | [], _ => rfl
  | d :: ds, h => by
    have h' : tam d = true ∧ tams ds = true := by simpa only [tams, Bool.and_eq_true] using h
    show (My.sml d && My.smls ds) = true
    rw [tam.sml h'.1, tams.smls h'.2]
    rfl
end
mutual
theorem tam.so : ∀ {d : PyData}, tam d = true → PyData.strOk d.shown = true
  | .str x, h => by
    have h' : x.length ≤ 12 ∧ PyData.strOk x = true := by simpa only [tam, Bool.and_eq_true, decide_eq_true_eq] using h
    simp only [PyData.shown]
    exact so_repr h'.2
  | .int i, h => by
    simp only [PyData.shown]
    exact so_lit _
  | .list ds, h => by
    have h' : ds.length ≤ 14 ∧ tams ds = true := by simpa only [tam, Bool.and_eq_true, decide_eq_true_eq] using h
    simp only [PyData.shown]
    rw [listText_eq_join]
    exact so_app (so_app (so_lit _) (so_join (so_lit _) (tams.so h'.2))) (so_lit _)
  | .tuple ds, h => by
    have h' : ds.length ≤ 14 ∧ tams ds = true := by simpa only [tam, Bool.and_eq_true, decide_eq_true_eq] using h
    simp only [PyData.shown]
    unfold tupleText
    exact so_app (so_app (so_lit _) (so_join (so_lit _) (tams.so h'.2))) (so_lit _)
  | .dict kvs, h => by
    have h' : kvs = [] := List.isEmpty_iff.mp h
    subst h'
    decide +kernel
  | .none, _ => by decide +kernel
  | .bool b, _ => by cases b <;> decide +kernel
theorem tams.so : ∀ {ds : List PyData}, tams ds = true → ∀ t ∈ PyData.shownAll ds, PyData.strOk t = true
  | [], _ => fun t ht => by simp only [PyData.shownAll] at ht; cases ht
  | d :: ds, h => by
    have h' : tam d = true ∧ tams ds = true := by simpa only [tams, Bool.and_eq_true] using h
    intro t ht
    simp only [PyData.shownAll] at ht
    rcases List.mem_cons.mp ht with rfl | ht
    · exact tam.so h'.1
    · exact tams.so h'.2 t ht
end
theorem nat_fit : ∀ n : Nat, n < 1000 → (PyData.shown (.int (n : Int))).length ≤ 13 ∧ (PyData.shown (.int (-(n : Int)))).length ≤ 13 := by
  have z : ∀ n : Fin 1000, (PyData.shown (.int (n.val : Int))).length ≤ 13 ∧ (PyData.shown (.int (-(n.val : Int)))).length ≤ 13 := by decide +kernel
  exact fun n h => z ⟨n, h⟩
theorem int_fit {i : Int} (h : i.natAbs < 1000) : PyData.showable (.int i) = true ∧ PyData.leavesShort 13 (.int i) = true ∧ PyData.weight (.int i) ≤ 12 := by
  have lg : i.natAbs.log2 < 10 := by
    by_cases z : i.natAbs = 0
    · rw [z]
      decide
    · exact (Nat.log2_lt z).mpr (by omega)
  refine ⟨?_, ?_, ?_⟩
  · show decide (i.natAbs.log2 < 1920) = true
    exact decide_eq_true (by omega)
  · show decide ((PyData.shown (.int i)).length ≤ 13) = true
    refine decide_eq_true ?_
    obtain ⟨a, b⟩ := nat_fit i.natAbs h
    rcases Int.natAbs_eq i with e | e
    · rw [e]
      exact a
    · rw [e]
      exact b
  · show (if (i == 0) = true then 0 else i.natAbs.log2 + 1) ≤ 12
    split <;> omega
/-- how heavy it is, by its depth -/
def bnd : Nat → Nat
  | 0 => 12
  | n + 1 => 14 * (bnd n + 1)
theorem bnd_mono : ∀ {m n : Nat}, m ≤ n → bnd m ≤ bnd n
  | 0, 0, _ => Nat.le_refl _
  | 0, n + 1, _ => by
    have := bnd_mono (m := 0) (n := n) (Nat.zero_le _)
    show _ ≤ 14 * (bnd n + 1)
    omega
  | m + 1, n + 1, h => by
    have := bnd_mono (m := m) (n := n) (by omega)
    show 14 * (bnd m + 1) ≤ 14 * (bnd n + 1)
    omega
mutual
theorem tam.parts : ∀ {d : PyData}, tam d = true → d.showable = true ∧ d.leavesShort 13 = true ∧ d.weight ≤ bnd d.depth
  | .str x, h => by
    have h' : x.length ≤ 12 ∧ PyData.strOk x = true := by simpa only [tam, Bool.and_eq_true, decide_eq_true_eq] using h
    refine ⟨rfl, List.all_eq_true.mpr fun c hc => decide_eq_true ?_, h'.1⟩
    have := so_iff.mp h'.2 c hc
    have e : (16 : Nat) ^ 8 = 4294967296 := by decide
    omega
  | .int i, h => int_fit (of_decide_eq_true h)
  | .list ds, h => by
    have h' : ds.length ≤ 14 ∧ tams ds = true := by simpa only [tam, Bool.and_eq_true, decide_eq_true_eq] using h
    obtain ⟨a, b, c⟩ := tams.parts h'.2 (Nat.le_refl _)
    refine ⟨a, b, Nat.le_trans c ?_⟩
    show _ ≤ 14 * (bnd (PyData.depthAll ds) + 1)
    exact Nat.mul_le_mul_right _ h'.1
  | .tuple ds, h => by
    have h' : ds.length ≤ 14 ∧ tams ds = true := by simpa only [tam, Bool.and_eq_true, decide_eq_true_eq] using h
    obtain ⟨a, b, c⟩ := tams.parts h'.2 (Nat.le_refl _)
    refine ⟨a, b, Nat.le_trans c ?_⟩
    show _ ≤ 14 * (bnd (PyData.depthAll ds) + 1)
    exact Nat.mul_le_mul_right _ h'.1
  | .dict kvs, h => by
    have h' : kvs = [] := List.isEmpty_iff.mp h
    subst h'
    exact ⟨rfl, rfl, Nat.zero_le _⟩
  | .none, _ => ⟨rfl, rfl, Nat.zero_le _⟩
  | .bool b, _ => ⟨rfl, rfl, Nat.zero_le _⟩
theorem tams.parts : ∀ {ds : List PyData} {n : Nat}, tams ds = true → PyData.depthAll ds ≤ n → PyData.showableAll ds = true ∧ PyData.leavesShortAll 13 ds = true ∧ PyData.weightAll ds ≤ ds.length * (bnd n + 1)
  | [], _, _, _ => ⟨rfl, rfl, Nat.zero_le _⟩
  | d :: ds, n, h, hn => by
    have h' : tam d = true ∧ tams ds = true := by simpa only [tams, Bool.and_eq_true] using h
    have hn' : max d.depth (PyData.depthAll ds) ≤ n := hn
    obtain ⟨a1, b1, c1⟩ := tam.parts h'.1
    obtain ⟨a2, b2, c2⟩ := tams.parts h'.2 (n := n) (by omega)
    have m := bnd_mono (m := d.depth) (n := n) (by omega)
    refine ⟨?_, ?_, ?_⟩
    · show (d.showable && PyData.showableAll ds) = true
      rw [a1, a2]
      rfl
    · show (d.leavesShort 13 && PyData.leavesShortAll 13 ds) = true
      rw [b1, b2]
      rfl
    · show d.weight + 1 + PyData.weightAll ds ≤ (ds.length + 1) * (bnd n + 1)
      rw [Nat.add_mul, Nat.one_mul]
      omega
end
theorem tam.fits {d : PyData} (h : tam d = true) (hd : d.depth ≤ 4) : Fits d := by
  obtain ⟨a, b, c⟩ := tam.parts h
  refine ⟨a, by omega, PyData.shown_fits (B := 13) (by decide) (by decide) b (Nat.le_trans c (Nat.le_trans (bnd_mono hd) (by decide)))⟩
theorem tam_nm {x : Str} (h : Nm x) : tam (.str x) = true := by
  show (decide (x.length ≤ 12) && PyData.strOk x) = true
  rw [nm_ok h, decide_eq_true (by have := h.2.1; omega)]
  rfl
theorem tams_strs : ∀ {xs : List Str}, (∀ x ∈ xs, Nm x) → tams (xs.map PyData.str) = true
  | [], _ => rfl
  | x :: xs, h => by
    show (tam (.str x) && tams (xs.map PyData.str)) = true
    rw [tam_nm (h x List.mem_cons_self), tams_strs fun y hy => h y (List.mem_cons_of_mem _ hy)]
    rfl
end My

namespace My
open PySem PySem.Spec PyProof.Rows L2 Gy Xl Xs Xt
/-! ### data that stand while the pot changes -/
def wo (r : Addr) (H : Hp) : Hp := fun a => if a = r then none else H a
theorem wo_at {r a : Addr} {H : Hp} (n : a ≠ r) : wo r H a = H a := if_neg n
theorem wo_same (r : Addr) (H : Hp) : Same (wo r H) H := fun b o e => by
  by_cases h : b = r
  · rw [wo, if_pos h] at e
    cases e
  · rw [wo_at h] at e
    exact e
theorem wo_but {r : Addr} {H H' : Hp} (h : But r H H') : Same (wo r H) (wo r H') := fun b o e => by
  by_cases n : b = r
  · rw [wo, if_pos n] at e
    cases e
  · rw [wo_at n] at e
    rw [wo_at n]
    exact h b o n e
section
variable {K : PySem.W.Frag} {H H' : Hp} {r : Addr}
/-- data none of which is the pot -/
def Db (K : PySem.W.Frag) (r : Addr) (H : Hp) (v : V) (d : PyData) : Prop := Dn K (wo r H) v d
def Dbs (K : PySem.W.Frag) (r : Addr) (H : Hp) (vs : List V) (ds : List PyData) : Prop := Dns K (wo r H) vs ds
theorem Db.dn {v : V} {d : PyData} (h : Db K r H v d) : Dn K H v d := Dn.same (wo_same r H) h
theorem Db.but {v : V} {d : PyData} (h : Db K r H v d) (b : But r H H') : Db K r H' v d := Dn.same (wo_but b) h
theorem Db.same {v : V} {d : PyData} (h : Db K r H v d) (s : Same H H') : Db K r H' v d := h.but (But.of s)
theorem Dbs.dns {vs : List V} {ds : List PyData} (h : Dbs K r H vs ds) : Dns K H vs ds := Dns.same (wo_same r H) h
theorem Dbs.but {vs : List V} {ds : List PyData} (h : Dbs K r H vs ds) (b : But r H H') : Dbs K r H' vs ds := Dns.same (wo_but b) h
theorem Dbs.same {vs : List V} {ds : List PyData} (h : Dbs K r H vs ds) (s : Same H H') : Dbs K r H' vs ds := h.but (But.of s)
theorem tz_wo {t : Addr} {xs : List V} (R : Rng H r) (z : Tz H t xs) : Tz (wo r H) t xs := by
  obtain ⟨o, e, c⟩ := z
  refine ⟨o, ?_, c⟩
  rw [wo_at (fun n => ?_)]
  · exact e
  · obtain ⟨x, y, e2, _⟩ := R
    rw [n, e2] at e
    cases e
theorem Db.tup {t : Addr} {xs : List V} {ds : List PyData} (R : Rng H r) (z : Tz H t xs) (h : Dbs K r H xs ds) : Db K r H (.ref t) (.tuple ds) := Dn.tup (tz_wo R z) h
theorem Db.lst {l : Addr} {xs : List V} {ds : List PyData} (n : l ≠ r) (e : H l = some (.lst xs)) (h : Dbs K r H xs ds) : Db K r H (.ref l) (.list ds) := Dn.lst (by rw [wo_at n]; exact e) h
theorem Db.dic {l : Addr} (n : l ≠ r) (e : H l = some (.dK [])) : Db K r H (.ref l) (.dict []) := Dn.dic (by rw [wo_at n]; exact e)
theorem Db.str (x : Str) : Db K r H (.str x) (.str x) := Dn.str x
theorem Db.int (i : Int) : Db K r H (.int i) (.int i) := Dn.int i
theorem Db.bl (b : Bool) : Db K r H (.bl b) (.bool b) := Dn.bl b
theorem Db.non : Db K r H .non .none := Dn.non
theorem Dbs.nil : Dbs K r H [] [] := Dns.nil
theorem Dbs.cons {v : V} {vs : List V} {d : PyData} {ds : List PyData} (h : Db K r H v d) (t : Dbs K r H vs ds) : Dbs K r H (v :: vs) (d :: ds) := Dns.cons h t
theorem dns_app : ∀ {vs us : List V} {ds es : List PyData}, Dns K H vs ds → Dns K H us es → Dns K H (vs ++ us) (ds ++ es)
  | _, _, _, _, .nil, h => h
  | _, _, _, _, .cons a t, h => .cons a (dns_app t h)
theorem Dbs.app {vs us : List V} {ds es : List PyData} (h : Dbs K r H vs ds) (h2 : Dbs K r H us es) : Dbs K r H (vs ++ us) (ds ++ es) := dns_app h h2
theorem dns_drop : ∀ {vs : List V} {ds : List PyData} (n : Nat), Dns K H vs ds → Dns K H (vs.drop n) (ds.drop n)
  | _, _, 0, h => h
  | _, _, n + 1, .nil => .nil
  | _, _, n + 1, .cons a t => dns_drop n t
theorem dns_take : ∀ {vs : List V} {ds : List PyData} (n : Nat), Dns K H vs ds → Dns K H (vs.take n) (ds.take n)
  | _, _, 0, _ => .nil
  | _, _, n + 1, .nil => .nil
  | _, _, n + 1, .cons a t => .cons a (dns_take n t)
theorem Dbs.drop {vs : List V} {ds : List PyData} (n : Nat) (h : Dbs K r H vs ds) : Dbs K r H (vs.drop n) (ds.drop n) := dns_drop n h
theorem Dbs.take {vs : List V} {ds : List PyData} (n : Nat) (h : Dbs K r H vs ds) : Dbs K r H (vs.take n) (ds.take n) := dns_take n h
theorem dns_rev : ∀ {vs : List V} {ds : List PyData}, Dns K H vs ds → Dns K H vs.reverse ds.reverse
  | _, _, .nil => .nil
  | _, _, .cons a t => by
    rw [List.reverse_cons, List.reverse_cons]
    exact dns_app (dns_rev t) (.cons a .nil)
theorem Dbs.rev {vs : List V} {ds : List PyData} (h : Dbs K r H vs ds) : Dbs K r H vs.reverse ds.reverse := dns_rev h
theorem dns_mem : ∀ {vs : List V} {ds : List PyData} {v : V}, Dns K H vs ds → v ∈ vs → ∃ d, d ∈ ds ∧ Dn K H v d
  | _, _, _, .nil, h => nomatch h
  | _, _, v, .cons (d := d) a t, h => by
    rcases List.mem_cons.mp h with rfl | h
    · exact ⟨d, List.mem_cons_self, a⟩
    · obtain ⟨e, m, z⟩ := dns_mem t h
      exact ⟨e, List.mem_cons_of_mem _ m, z⟩
theorem Dbs.mem {vs : List V} {ds : List PyData} {v : V} (h : Dbs K r H vs ds) (m : v ∈ vs) : ∃ d, d ∈ ds ∧ Db K r H v d := dns_mem h m
theorem Dbs.len {vs : List V} {ds : List PyData} (h : Dbs K r H vs ds) : vs.length = ds.length := Dns.len h.dns
theorem Dbs.get {vs : List V} {ds : List PyData} (h : Dbs K r H vs ds) {i : Nat} {v : V} (e : vs[i]? = some v) : ∃ d, ds[i]? = some d ∧ Db K r H v d := Dns.get (show Dns K (wo r H) vs ds from h) e
theorem dbs_strs (xs : List Str) : Dbs K r H (xs.map V.str) (xs.map PyData.str) := by
  induction xs with
  | nil => exact .nil
  | cons x xs ih => exact .cons (.str x) ih
theorem upd_new {l : Addr} {o : HO} (e : upd H l o = H') (n : H l = none) : Same H H' ∧ H' l = some o := by
  rw [← e]
  exact ⟨same_upd n, upd_same⟩
end
theorem cutn (xs : List Str) {n : Nat} (h : n ≤ xs.length) : cutV (xs.map V.str) none (some (n : Int)) = (xs.take n).map V.str := by
  unfold cutV
  have e2 : HT.sIx (xs.map V.str).length (xs.map V.str).length (some (n : Int)) = n := by
    rw [HT.sIx_nat, List.length_map]
    omega
  rw [e2, HT.sIx_none, List.drop_zero, Nat.sub_zero, List.map_take]
/-! ### how large they are: tam, with another bound of the lengths -/
mutual
def tm (n : Nat) : PyData → Bool
  | .str x => decide (x.length ≤ 12) && PyData.strOk x
  | .int i => decide (i.natAbs < 1000)
  | .list ds => decide (ds.length ≤ n) && tms n ds
  | .tuple ds => decide (ds.length ≤ n) && tms n ds
  | .dict kvs => kvs.isEmpty
  | .none => true
  | .bool _ => true
def tms (n : Nat) : List PyData → Bool
  | [] => true
  | d :: ds => tm n d && tms n ds
end
mutual
theorem tm_mono {m n : Nat} (h : m ≤ n) : ∀ {d : PyData}, tm m d = true → tm n d = true
  | .str x, a => a
  | .int i, a => a
  | .list ds, a => by
    have a' : ds.length ≤ m ∧ tms m ds = true := by simpa only [tm, Bool.and_eq_true, decide_eq_true_eq] using a
    show (decide (ds.length ≤ n) && tms n ds) = true
    rw [decide_eq_true (by omega), tms_mono h a'.2]
    rfl
  | .tuple ds, a => by
    have a' : ds.length ≤ m ∧ tms m ds = true := by simpa only [tm, Bool.and_eq_true, decide_eq_true_eq] using a
    show (decide (ds.length ≤ n) && tms n ds) = true
    rw [decide_eq_true (by omega), tms_mono h a'.2]
    rfl
  | .dict kvs, a => a
  | .none, _ => rfl
  | .bool _, _ => rfl
theorem tms_mono {m n : Nat} (h : m ≤ n) : ∀ {ds : List PyData}, tms m ds = true → tms n ds = true
  | [], _ => rfl
  | d :: ds, a => by
    have a' : tm m d = true ∧ tms m ds = true := by simpa only [tms, Bool.and_eq_true] using a
    show (tm n d && tms n ds) = true
    rw [tm_mono h a'.1, tms_mono h a'.2]
    rfl
end
mutual
theorem tm_tam : ∀ {d : PyData}, tm 14 d = true → tam d = true
  | .str x, a => a
  | .int i, a => a
  | .list ds, a => by
    have a' : ds.length ≤ 14 ∧ tms 14 ds = true := by simpa only [tm, Bool.and_eq_true, decide_eq_true_eq] using a
    show (decide (ds.length ≤ 14) && tams ds) = true
    rw [decide_eq_true a'.1, tms_tams a'.2]
    rfl
  | .tuple ds, a => by
    have a' : ds.length ≤ 14 ∧ tms 14 ds = true := by simpa only [tm, Bool.and_eq_true, decide_eq_true_eq] using a
    show (decide (ds.length ≤ 14) && tams ds) = true
    rw [decide_eq_true a'.1, tms_tams a'.2]
    rfl
  | .dict kvs, a => a
  | .none, _ => rfl
  | .bool _, _ => rfl
theorem tms_tams : ∀ {ds : List PyData}, tms 14 ds = true → tams ds = true
  | [], _ => rfl
  | d :: ds, a => by
    have a' : tm 14 d = true ∧ tms 14 ds = true := by simpa only [tms, Bool.and_eq_true] using a
    show (tam d && tams ds) = true
    rw [tm_tam a'.1, tms_tams a'.2]
    rfl
end
theorem tms_of {n : Nat} : ∀ {ds : List PyData}, (∀ d ∈ ds, tm n d = true) → tms n ds = true
  | [], _ => rfl
  | d :: ds, h => by
    show (tm n d && tms n ds) = true
    rw [h d List.mem_cons_self, tms_of fun e he => h e (List.mem_cons_of_mem _ he)]
    rfl
theorem tms_mem {n : Nat} : ∀ {ds : List PyData} {d : PyData}, tms n ds = true → d ∈ ds → tm n d = true
  | e :: ds, d, h, m => by
    have h' : tm n e = true ∧ tms n ds = true := by simpa only [tms, Bool.and_eq_true] using h
    rcases List.mem_cons.mp m with rfl | m
    · exact h'.1
    · exact tms_mem h'.2 m
theorem dep_of {k : Nat} : ∀ {ds : List PyData}, (∀ d ∈ ds, d.depth ≤ k) → PyData.depthAll ds ≤ k
  | [], _ => Nat.zero_le _
  | d :: ds, h => by
    show max d.depth (PyData.depthAll ds) ≤ k
    have a := h d List.mem_cons_self
    have b := dep_of fun e he => h e (List.mem_cons_of_mem _ he)
    omega
theorem dep_mem : ∀ {ds : List PyData} {d : PyData}, d ∈ ds → d.depth ≤ PyData.depthAll ds
  | e :: ds, d, m => by
    show d.depth ≤ max e.depth (PyData.depthAll ds)
    rcases List.mem_cons.mp m with rfl | m
    · omega
    · have := dep_mem m
      omega
theorem tm_tup {n k : Nat} {ds : List PyData} (h : ∀ d ∈ ds, tm n d = true ∧ d.depth ≤ k) (l : ds.length ≤ n) : tm n (.tuple ds) = true ∧ (PyData.tuple ds).depth ≤ k + 1 := by
  refine ⟨?_, Nat.succ_le_succ (dep_of fun d hd => (h d hd).2)⟩
  show (decide (ds.length ≤ n) && tms n ds) = true
  rw [decide_eq_true l, tms_of fun d hd => (h d hd).1]
  rfl
theorem tm_lst {n k : Nat} {ds : List PyData} (h : ∀ d ∈ ds, tm n d = true ∧ d.depth ≤ k) (l : ds.length ≤ n) : tm n (.list ds) = true ∧ (PyData.list ds).depth ≤ k + 1 := by
  refine ⟨?_, Nat.succ_le_succ (dep_of fun d hd => (h d hd).2)⟩
  show (decide (ds.length ≤ n) && tms n ds) = true
  rw [decide_eq_true l, tms_of fun d hd => (h d hd).1]
  rfl
end My

namespace My
open PySem PySem.Spec PyProof.Rows L2 Gy Xl Xs Xt Xo Xp
theorem len_app (x y : Str) : (x ++ y).length = x.length + y.length := strLen_append ..
theorem spl1_free {s : Nat} : ∀ (l acc : List Nat), s ∉ acc → ∀ p ∈ TL.spl [s] 0 acc l, s ∉ p
  | [], acc, h, p, hp => by
    rw [TL.spl_nil] at hp
    rw [List.mem_singleton.mp hp]
    exact h
  | c :: r, acc, h, p, hp => by
    cases e : TL.pre [s] (c :: r) with
    | true =>
      rw [TL.spl_hit e] at hp
      rcases List.mem_cons.mp hp with rfl | hp
      · exact h
      · exact spl1_free r [] (fun z => nomatch z) p hp
    | false =>
      rw [TL.spl_miss e] at hp
      refine spl1_free r (acc ++ [c]) ?_ p hp
      rw [List.mem_append, List.mem_singleton]
      rintro (z | z)
      · exact h z
      · subst z
        have : ([s] == [s]) = false := e
        simp at this
theorem split_free {x p : Str} (h : p ∈ Txt.split x " ") : 32 ∉ TL.tl p := by
  have e := TL.split_spl x " " (by decide +kernel) (TL.kind_ok (by decide +kernel))
  have m : TL.tl p ∈ (Txt.split x " ").map TL.tl := List.mem_map_of_mem h
  rw [e] at m
  exact spl1_free (TL.tl x) [] (fun z => nomatch z) _ (show TL.tl p ∈ TL.spl [32] 0 [] (TL.tl x) from m)
theorem mem_join_sub {y p : Str} : ∀ {xs : List Str}, p ∈ xs → ∀ c ∈ TL.tl p, c ∈ TL.tl (Str.join y xs)
  | [x], h, c, hc => by
    rw [List.mem_singleton.mp h] at hc
    exact hc
  | x :: z :: r, h, c, hc => by
    show c ∈ TL.tl (x ++ y ++ Str.join y (z :: r))
    rw [TL.tl_append, TL.tl_append, List.mem_append, List.mem_append]
    rcases List.mem_cons.mp h with rfl | h
    · exact .inl (.inl hc)
    · exact .inr (mem_join_sub h c hc)
theorem part_sub {x y p : Str} (h : p ∈ Txt.split x y) : ∀ c ∈ TL.tl p, c ∈ TL.tl x := fun c hc => by
  have := mem_join_sub (y := y) h c hc
  rw [StrLaws.join_split] at this
  exact this
theorem split_ne (x : Str) : Txt.split x " " ≠ [] := fun z => by
  have e := TL.split_spl x " " (by decide +kernel) (TL.kind_ok (by decide +kernel))
  rw [z] at e
  have e' : ([] : List (List Nat)) = TL.spl [32] 0 [] (TL.tl x) := e
  have ne : ∀ (l acc : List Nat), TL.spl [32] 0 acc l ≠ [] := by
    intro l
    induction l with
    | nil =>
      intro acc z
      rw [TL.spl_nil] at z
      cases z
    | cons c r ih =>
      intro acc z
      cases h : TL.pre [32] (c :: r) with
      | true =>
        rw [TL.spl_hit h] at z
        cases z
      | false =>
        rw [TL.spl_miss h] at z
        exact ih _ z
  exact ne _ _ e'.symm
theorem split_neL (x : Str) : Txt.split x "\n" ≠ [] := fun z => by
  have e := TL.split_spl x "\n" (by decide +kernel) (TL.kind_ok (by decide +kernel))
  rw [z] at e
  have e' : ([] : List (List Nat)) = TL.spl [10] 0 [] (TL.tl x) := e
  have ne : ∀ (l acc : List Nat), TL.spl [10] 0 acc l ≠ [] := by
    intro l
    induction l with
    | nil =>
      intro acc z
      rw [TL.spl_nil] at z
      cases z
    | cons c r ih =>
      intro acc z
      cases h : TL.pre [10] (c :: r) with
      | true =>
        rw [TL.spl_hit h] at z
        cases z
      | false =>
        rw [TL.spl_miss h] at z
        exact ih _ z
  exact ne _ _ e'.symm
theorem split_freeL {x p : Str} (h : p ∈ Txt.split x "\n") : 10 ∉ TL.tl p := by
  have e := TL.split_spl x "\n" (by decide +kernel) (TL.kind_ok (by decide +kernel))
  have m : TL.tl p ∈ (Txt.split x "\n").map TL.tl := List.mem_map_of_mem h
  rw [e] at m
  exact spl1_free (TL.tl x) [] (fun z => nomatch z) _ (show TL.tl p ∈ TL.spl [10] 0 [] (TL.tl x) from m)
theorem mem_join_le {y p : Str} : ∀ {xs : List Str}, p ∈ xs → p.length ≤ (Str.join y xs).length
  | [x], h => by
    rw [List.mem_singleton.mp h]
    exact Nat.le_refl _
  | x :: z :: r, h => by
    show _ ≤ (x ++ y ++ Str.join y (z :: r)).length
    rw [len_app, len_app]
    rcases List.mem_cons.mp h with rfl | h
    · omega
    · have := mem_join_le (y := y) h
      omega
theorem part_le (x : Str) {y p : Str} (h : p ∈ Txt.split x y) : p.length ≤ x.length := by
  have := mem_join_le (y := y) h
  rw [StrLaws.join_split] at this
  exact this
/-! ### slices -/
theorem cut_init (xs : List Str) (e : Str) : cutV ((xs ++ [e]).map V.str) none (some (-1)) = xs.map V.str := by
  unfold cutV
  have l : ((xs ++ [e]).map V.str).length = xs.length + 1 := by rw [List.length_map, List.length_append]; rfl
  have k : HT.sIx ((xs ++ [e]).map V.str).length ((xs ++ [e]).map V.str).length (some (-1)) = xs.length := by
    rw [l]
    show (if (-1 : Int) < 0 then (-1 + ((xs.length + 1 : Nat) : Int)).toNat else min (-1 : Int).toNat (xs.length + 1)) = _
    rw [if_pos (by decide)]
    omega
  rw [k, HT.sIx_none, List.drop_zero, Nat.sub_zero, ← List.map_take, List.take_append_of_le_length (Nat.le_refl _), List.take_of_length_le (Nat.le_refl _)]
theorem last_is (xs : List Str) (e : Str) : atI ((xs ++ [e]).map V.str) (-1) = some (.str e) := by
  rw [List.map_append]
  exact atI_last _ _
theorem cut1 (x : V) (xs : List V) : cutV (x :: xs) (some 1) none = xs := by
  unfold cutV
  rw [show (some 1 : Option Int) = some ((1 : Nat) : Int) from rfl, HT.sIx_nat, HT.sIx_none, List.length_cons, show min 1 (xs.length + 1) = 1 by omega]
  show (List.drop 0 xs).take _ = _
  rw [List.drop_zero, List.take_of_length_le (by omega)]
/-! ### what a text of a tree's lines says -/
/-- the host of a line -/
def hostOf : List Str → Option Str
  | [a, x] => if a = "host" ∧ textOf (.str x) LET 8 = true then some x else none
  | _ => none
def lastH (hs : List Str) (x : Str) : Bool := match hs.getLast? with
  | some q => ltS q x
  | none => true
def lastL (ls : List (Str × Str)) (p : Str × Str) : Bool := match ls.getLast? with
  | some q => lexS q p
  | none => true
/-- the host of a line that may follow these hosts -/
def nextH (hs : List Str) (ps : List Str) : Option Str := match hostOf ps with
  | some x => if lastH hs x = true then some x else none
  | none => none
def leadH : List Str → List (List Str) → List Str
  | hs, [] => hs
  | hs, ps :: r => match nextH hs ps with
    | some x => leadH (hs ++ [x]) r
    | none => hs
/-- the link of a line -/
def linkOf : List Str → Option (Str × Str)
  | [a, x, y] => if a = "link" ∧ ltS x y = true then some (x, y) else none
  | _ => none
/-- the link of a line that may follow these links, of these hosts -/
noncomputable def nextL (hs : List Str) (ls : List (Str × Str)) (ps : List Str) : Option (Str × Str) := match linkOf ps with
  | some p => if lastL ls p = true ∧ p.1 ∈ hs ∧ p.2 ∈ hs ∧ rcB ls p.1 p.2 = false then some p else none
  | none => none
/-- the links of the lines, or how many lines are right -/
noncomputable def follL (hs : List Str) : List (Str × Str) → List (List Str) → List (Str × Str) × Bool
  | ls, [] => (ls, true)
  | ls, ps :: r => match nextL hs ls ps with
    | some p => follL hs (ls ++ [p]) r
    | none => (ls, false)
theorem hostOf2 (a x : Str) : hostOf [a, x] = if a = "host" ∧ textOf (.str x) LET 8 = true then some x else none := rfl
theorem nextH_no {hs ps : List Str} (h : hostOf ps = none) : nextH hs ps = none := by
  unfold nextH
  rw [h]
theorem linkOf3 (a x y : Str) : linkOf [a, x, y] = if a = "link" ∧ ltS x y = true then some (x, y) else none := rfl
theorem nextL_no {hs : List Str} {ls : List (Str × Str)} {ps : List Str} (h : linkOf ps = none) : nextL hs ls ps = none := by
  unfold nextL
  rw [h]
theorem hostOf_some {ps : List Str} {x : Str} (h : hostOf ps = some x) : ps = [("host" : Str), x] ∧ textOf (.str x) LET 8 = true := by
  unfold hostOf at h
  split at h
  · next a y =>
    split at h
    · next c =>
      injection h with h
      subst h
      exact ⟨by rw [c.1], c.2⟩
    · cases h
  · cases h
theorem linkOf_some {ps : List Str} {p : Str × Str} (h : linkOf ps = some p) : ps = [("link" : Str), p.1, p.2] ∧ ltS p.1 p.2 = true := by
  unfold linkOf at h
  split at h
  · next a x y =>
    split at h
    · next c =>
      injection h with h
      subst h
      exact ⟨by rw [c.1], c.2⟩
    · cases h
  · cases h
end My

namespace My
open PySem PySem.Spec PyProof.Rows L2 Gy Xl Xs Xt Xo Xp
section
variable {P : Program} {w : World} {K : PySem.W.Frag} {mg : Str → Option Value} {base : Heap} {H : Hp} {C CI CL : Addr}
theorem take_last {α : Type} {xs : List α} {i : Nat} {x : α} (h : xs[i]? = some x) : xs.take (i + 1) = xs.take i ++ [x] := by
  rw [List.take_add_one, h]
  rfl
theorem strOr {v : V} {d : PyData} (h : Dn K H v d) : (∃ x, v = .str x ∧ d = .str x) ∨ ((∀ x, d ≠ .str x) ∧ ∃ t, TyX K H v (.type t) ∧ kitB t "str" = some false) := by
  cases h with
  | non => exact .inr ⟨(fun _ z => nomatch z), _, .base .non, by decide +kernel⟩
  | bl b => exact .inr ⟨(fun _ z => nomatch z), _, .base (.bl b), by decide +kernel⟩
  | int i => exact .inr ⟨(fun _ z => nomatch z), _, .base (.int i), by decide +kernel⟩
  | str x => exact .inl ⟨x, rfl, rfl⟩
  | lst e _ => exact .inr ⟨(fun _ z => nomatch z), _, .base (.lst e), by decide +kernel⟩
  | tup e t => exact .inr ⟨(fun _ z => nomatch z), _, e.ty, by decide +kernel⟩
  | dic e => exact .inr ⟨(fun _ z => nomatch z), _, .base (.dK e), by decide +kernel⟩
def spSX (K : PySem.W.Frag) (CL : Addr) : Sp := fun vs H Q E => ∃ (v : V) (d : PyData), vs = [v] ∧ Dn K H v d ∧ ((∀ x, d ≠ .str x) → Ro E CL "line" (.int 0) H) ∧
  ∀ x, d = .str x → x.length ≤ 5000 ∧ ∀ H' t l ps r, Same H H' → Txt.split x "\n" = ps ++ [r] → H' l = some (.lst (ps.map V.str)) → Tz H' t [.ref l, .str r] → Q (.ref t) H'
theorem ok_sx {f : Addr} {fd : FuncData} (F : Fun K "split_text" "split_text" s_split_text f fd) (Y : Bn mg) (R : Rz P w K mg base "InvalidLine" "line" CL) : FnOk P w K mg base (L2.CX P w) 3 f fd ["text"] (spSX K CL) := by
  obtain ⟨fI, fdI, XI, GI, bI⟩ := R.ex
  refine F.okX sc_split_text (fun vs H Q E h => ?_) (fun cdv A outer s H vs Q E hr h => ?_)
  · obtain ⟨v, d, rfl, _⟩ := h
    rfl
  · obtain ⟨v, d, rfl, dn, q1, q2⟩ := h
    refine ⟨_, (pss_cons (ps_if (pt_not (pt_val (pe_callB call_isi (by rfl) Y.isinstance (by decide +kernel) (pa_cons (pv 0) (pa_cons (pe_bltn (v := .ty "str") (by rfl) Y.str (by decide +kernel) rfl) pa_nil)))))
 (pss_one (ps_raise1 rfl (takes_of rfl rfl rfl rfl) XI R.ty GI (hr.mono (by decide)) bI (by rfl) R.gm (pa_cons pe_int pa_nil)))
 pss_nil)
 (pss_cons (ps_set (i := 1) sc_split_text.nd rfl (.inl rfl) (pe_split (pv 0) pe_str))
 (pss_one (ps_ret (pe_tupZ (pa_cons (pe_slice sl_list (pv 1) po_none (po_some (pe_un un_neg pe_int))) (pa_cons (pe_ix ix_list (pv 1) (pe_un un_neg pe_int) (fun _ _ => rfl)) pa_nil))))))), ?_⟩
    rcases strOr dn with ⟨x, rfl, rfl⟩ | ⟨no, ty, t1, t2⟩
    · obtain ⟨lx, q⟩ := q2 x rfl
      refine ⟨_, rfl, _, _, _, _, true, rfl, .ty "str", .base (.str _), kit_ty (by decide +kernel), _, rfl, iteF ?_⟩
      have tl := PyProof.Rows.split_le x "\n"
      refine ⟨_, rfl, ⟨_, rfl⟩, _, _, rfl, rfl, rfl, le200 (by omega), fun L nL => ?_⟩
      generalize hg : upd _ L _ = H1
      obtain ⟨s1, g1⟩ := (show Same H H1 ∧ H1 L = some (.lst ((Txt.split x "\n").map V.str)) by rw [← hg]; exact ⟨same_upd nL, upd_same⟩)
      clear hg
      obtain ⟨ps, r, e⟩ : ∃ ps r, Txt.split x "\n" = ps ++ [r] := by
        rcases List.eq_nil_or_concat (Txt.split x "\n") with h | ⟨ps, r, h⟩
        · exact absurd h (split_neL x)
        · exact ⟨ps, r, by rw [h, List.concat_eq_append]⟩
      rw [e] at g1
      refine ⟨_, rfl, 1, rfl, -1, rfl, L, _, rfl, SqL.of g1, fun l2 n2 => ?_⟩
      generalize hg : upd H1 l2 _ = H2
      obtain ⟨s2, g2⟩ := upd_new hg n2
      clear hg
      rw [cut_init] at g2
      refine ⟨_, rfl, 1, rfl, L, _, -1, _, rfl, rfl, SqL.of (s2 _ _ g1), last_is _ _, (by show 2 ≤ sizeLine; decide), fun t o nt st zt => ?_⟩
      exact q _ t l2 ps r ((s1.trans s2).trans st) e (st _ _ g2) zt
    · refine ⟨v, rfl, v, _, _, _, false, rfl, .ty "str", t1, kit_ty t2, _, rfl, iteT ?_⟩
      exact ⟨.int 0, rfl, fun dx nd => q1 no _ dx (same_upd nd) upd_same⟩
def spNR (CL : Addr) : Sp := fun vs H Q E => ∃ (l : Addr) (us : List V) (r : Str), vs = [.ref l, .str r] ∧ H l = some (.lst us) ∧ us.length ≤ 5000 ∧ (r = "" → Q .non H) ∧ (r ≠ "" → Ro E CL "line" (.int ((us.length : Int) + 1)) H)
theorem ok_nr {f : Addr} {fd : FuncData} (F : Fun K "check_no_rest" "check_no_rest" s_check_no_rest f fd) (Y : Bn mg) (R : Rz P w K mg base "InvalidLine" "line" CL) : FnOk P w K mg base (L2.CX P w) 3 f fd ["lines", "rest"] (spNR CL) := by
  obtain ⟨fI, fdI, XI, GI, bI⟩ := R.ex
  refine F.okX sc_check_no_rest (fun vs H Q E h => ?_) (fun cdv A outer s H vs Q E hr h => ?_)
  · obtain ⟨l, us, r, rfl, _⟩ := h
    rfl
  · obtain ⟨l, us, r, rfl, hl, ll, q1, q2⟩ := h
    refine ⟨_, (pss_one (ps_if (pt_cmpR op_ne (pv 1) pe_str (nomark _))
 (pss_one (ps_raise1 rfl (takes_of rfl rfl rfl rfl) XI R.ty GI (hr.mono (by decide)) bI (by rfl) R.gm (pa_cons (pe_op op_add (pe_callB call_len_seq (by rfl) Y.len PySem.boot_len (pa_cons (pv 0) pa_nil)) pe_int) pa_nil)))
 pss_nil)), ?_⟩
    refine ⟨_, rfl, rfl, _, rfl, ?_⟩
    by_cases c : r = ""
    · rw [decide_eq_true (show V.str r = V.str "" by rw [c])]
      exact iteF (q1 c)
    · rw [decide_eq_false (show ¬ V.str r = V.str "" from fun z => c (by injection z))]
      refine iteT ?_
      refine ⟨_, rfl, l, us, rfl, .inl (SqL.of hl), _, _, rfl, rfl, _, rfl, fun dx nd => ?_⟩
      exact q2 c _ dx (same_upd nd) upd_same
theorem kd_tx {x : Str} (h : x.length ≤ 6000) : Kd K H (.str x) := .str x (le200 (by omega))
def spLH : Sp := fun vs H Q _ => ∃ (a : Addr) (ls : List Str), vs = [.ref a] ∧ H a = some (.lst (ls.map V.str)) ∧ ls.length ≤ 5000 ∧ (∀ l ∈ ls, l.length ≤ 5000) ∧ ∀ H' L, Same H H' → H L = none → H' L = some (.lst ((leadH [] (ls.map fun l => Txt.split l " ")).map V.str)) → Q (.ref L) H'
theorem lead_app {hs : List Str} {ps : List (List Str)} {q : List Str} {r : List (List Str)} {gs : List Str} (h : leadH hs ps = gs) (l : gs.length = hs.length + ps.length) : leadH hs (ps ++ q :: r) = leadH gs (q :: r) := by
  induction ps generalizing hs with
  | nil =>
    have : hs = gs := h
    rw [this]
    rfl
  | cons p ps ih =>
    rw [List.cons_append]
    unfold leadH at h ⊢
    cases e : nextH hs p with
    | none =>
      rw [e] at h
      have h : hs = gs := h
      rw [← h, List.length_cons] at l
      omega
    | some x =>
      rw [e] at h
      have h : leadH (hs ++ [x]) ps = gs := h
      show leadH (hs ++ [x]) (ps ++ q :: r) = _
      refine ih h ?_
      rw [l, List.length_append, List.length_cons]
      show _ = hs.length + 1 + ps.length
      omega
theorem ok_lh {f : Addr} {fd : FuncData} (F : Fun K "leading_hosts" "leading_hosts" s_leading_hosts f fd) (Y : Bn mg) (G_is_host_name : Fk P w K mg base CX0 2 "is_host_name" ["value"] (spHost K)) : FnOk P w K mg base CX0 3 f fd ["lines"] spLH := by
  refine F.ok sc_leading_hosts (fun vs H Q E h => ?_) (fun cdv A outer s H vs Q E hr h => ?_)
  · obtain ⟨a, ls, rfl, _⟩ := h
    rfl
  · obtain ⟨a, ls, rfl, ha, l5, ll, q⟩ := h
    refine ⟨_, (pss_cons (ps_set (i := 1) sc_leading_hosts.nd rfl (.inl rfl) (pe_lst pa_nil))
 (pss_cons (ps_for PassesOwn.never rfl (pi_list (pv 0)) (pg_name (i := 2) sc_leading_hosts.nd rfl (Or.inl rfl))
 (pss_cons (ps_set (i := 3) sc_leading_hosts.nd rfl (.inl rfl) (pe_split (pv 2) pe_str))
 (pss_cons (ps_if (PW.pt (pw_or (pt_cmpR op_ne (pe_callB call_len_seq (by rfl) Y.len PySem.boot_len (pa_cons (pv 3) pa_nil)) pe_int (nomark _)) (pw_or (pt_cmpR op_ne (pe_ix ix_list (pv 3) pe_int (fun _ _ => rfl)) pe_str (nomark _)) (pw_or1 (pt_not (pt_val (pe_callF G_is_host_name (hr.mono (by decide)) (by rfl) pass0 (pa_cons (pe_ix ix_list (pv 3) pe_int (fun _ _ => rfl)) pa_nil))))))))
 (pss_one (ps_ret (pv 1)))
 pss_nil)
 (pss_cons (ps_if (PW.pt (pw_and (pt_truth (pv 1) (by intro _; rfl)) (pw_and1 (pt_cmpR op_le_str (pe_ix ix_list (pv 3) pe_int (fun _ _ => rfl)) (pe_ix ix_list (pv 1) (pe_un un_neg pe_int) (fun _ _ => rfl)) (nomark _)))))
 (pss_one (ps_ret (pv 1)))
 pss_nil)
 (pss_one (ps_expr (pe_bm PySem.F.plainAttrs_list PySem.F.slot_list_append PySem.F.type_list_append mt_append (pv 1) (pa_cons (pe_ix ix_list (pv 3) pe_int (fun _ _ => rfl)) pa_nil))))))))
 (pss_one (ps_ret (pv 1))))), ?_⟩
    refine ⟨Nat.zero_le _, fun L nL => ?_⟩
    generalize hg : upd H L _ = H1
    have s1 : Same H H1 := by rw [← hg]; exact same_upd nL
    have g1 : H1 L = some (.lst (([] : List Str).map V.str)) := by rw [← hg]; exact upd_same
    clear hg
    refine ⟨_, rfl, a, rfl, ⟨_, SqL.of (s1 _ _ ha)⟩, ?_⟩
    refine for_it (walk_list (K := K) (a := a) (xs := ls.map V.str)) (fun i σ H' => ∃ a2 a3 gs, σ = [some (.ref a), some (.ref L), a2, a3] ∧ Same H H' ∧ H' L = some (.lst (gs.map V.str)) ∧ leadH [] ((ls.take i).map fun l => Txt.split l " ") = gs ∧ gs.length = i)
      ⟨none, none, [], rfl, s1, g1, rfl, rfl⟩ (fun i σ H' _ h => by obtain ⟨_, _, _, _, h, _⟩ := h; exact SqL.of (h _ _ ha)) ?_ ?_
    · rintro i y σ H2 H3 hi ⟨a2, a3, gs, rfl, s2, hL, lead, lg⟩ ⟨rfl, hy⟩
      rw [List.getElem?_map] at hy
      obtain ⟨ln, hln, rfl⟩ := Option.map_eq_some_iff.mp hy
      have hi' : i < ls.length := (List.getElem?_eq_some_iff.mp hln).1
      have lnl := ll ln (List.mem_of_getElem? hln)
      have lnb : (Txt.split ln " ").length ≤ ln.length + 2 := PyProof.Rows.split_le ln " "
      have dec : ls = ls.take i ++ ln :: ls.drop (i + 1) := by
        conv => lhs; rw [← List.take_append_drop i ls]
        rw [List.drop_eq_getElem_cons hi']
        rw [List.getElem?_eq_getElem hi'] at hln
        injection hln with hln
        rw [hln]
      have stop : nextH gs (Txt.split ln " ") = none → leadH [] (ls.map fun l => Txt.split l " ") = gs := fun e => by
        rw [dec, List.map_append, List.map_cons, lead_app lead (by rw [lg, List.length_map, List.length_take]; show i = 0 + _; omega)]
        unfold leadH
        rw [e]
      have go : ∀ x, nextH gs (Txt.split ln " ") = some x → leadH [] ((ls.take (i + 1)).map fun l => Txt.split l " ") = gs ++ [x] := fun x e => by
        rw [take_last hln, List.map_append, List.map_cons, List.map_nil, lead_app lead (by rw [lg, List.length_map, List.length_take]; show i = 0 + _; omega)]
        unfold leadH
        rw [e]
        rfl
      refine ⟨_, rfl, ⟨_, rfl⟩, _, _, rfl, rfl, rfl, le200 (by omega), fun Lp nLp => ?_⟩
      generalize hg : upd H3 Lp _ = H4
      obtain ⟨s4, g4⟩ := (show Same H3 H4 ∧ H4 Lp = some (.lst ((Txt.split ln " ").map V.str)) by rw [← hg]; exact ⟨same_upd nLp, upd_same⟩)
      clear hg
      have s04 := s2.trans s4
      have plen : ∀ p ∈ Txt.split ln " ", p.length ≤ 5000 := fun p hp => Nat.le_trans (part_le ln hp) lnl
      generalize hps : Txt.split ln " " = ps at g4 stop go plen lnb
      have out : nextH gs ps = none → ∀ {H' : Hp}, Same H H' → H' L = some (.lst (gs.map V.str)) → Q (.ref L) H' := fun e H' s h => q H' L s nL (by rw [stop e]; exact h)
      have two : ps.length = 2 ∨ ps.length ≠ 2 := by omega
      refine ⟨_, rfl, Lp, _, rfl, .inl (SqL.of g4), rfl, _, rfl, ?_⟩
      rcases two with l2 | l2
      rotate_left
      · rw [List.length_map, decide_eq_false (show ¬ V.int (ps.length : Int) = V.int 2 from fun z => l2 (by injection z with z; omega))]
        refine iteT (iteT ⟨_, rfl, out ?_ s04 (s4 _ _ hL)⟩)
        unfold nextH
        rw [show hostOf ps = none by
          match ps, l2 with
          | [], _ => rfl
          | [_], _ => rfl
          | [_, _], h => exact absurd rfl h
          | _ :: _ :: _ :: _, _ => rfl]
      obtain ⟨a0, x, rfl⟩ : ∃ a0 x, ps = [a0, x] := by
        match ps, l2 with
        | [a0, x], _ => exact ⟨a0, x, rfl⟩
      rw [show decide (V.int (([a0, x].map V.str).length : Int) = V.int 2) = true from rfl]
      refine iteF ?_
      have x0 := plen x (List.mem_cons_of_mem _ List.mem_cons_self)
      refine ⟨_, rfl, Lp, _, 0, .str a0, rfl, rfl, SqL.of g4, atI_nat (j := 0) rfl, rfl, _, rfl, ?_⟩
      by_cases ea : a0 = "host"
      rotate_left
      · rw [decide_eq_false (show ¬ V.str a0 = V.str "host" from fun z => ea (by injection z))]
        refine iteT (iteT ⟨_, rfl, out ?_ s04 (s4 _ _ hL)⟩)
        refine nextH_no ?_
        rw [hostOf2, if_neg fun z => ea z.1]
      rw [decide_eq_true (show V.str a0 = V.str "host" by rw [ea])]
      refine iteF ?_
      refine ⟨_, rfl, Lp, _, 1, .str x, rfl, rfl, SqL.of g4, atI_nat (j := 1) rfl, .str x, rfl, kd_tx (by omega), fun H5 s5 => ?_⟩
      have s35 := s4.trans s5
      have s05 := s04.trans s5
      have hL5 := s35 _ _ hL
      have g5 := s5 _ _ g4
      refine ⟨_, rfl, ?_⟩
      cases tx : textOf (.str x) LET 8 with
      | false =>
        refine iteT ⟨_, rfl, out ?_ s05 hL5⟩
        refine nextH_no ?_
        rw [hostOf2, if_neg fun z => by rw [tx] at z; exact Bool.noConfusion z.2]
      | true =>
        have ho : hostOf [a0, x] = some x := by
          rw [hostOf2, if_pos ⟨ea, tx⟩]
        refine iteF ?_
        have fin : lastH gs x = true → ∃ ys, H5 L = some (.lst ys) ∧ ys.length < sizeLine ∧ ∃ a2 a3 gs2, [some (.ref a), some (.ref L), some (.str ln), some (V.ref Lp)] = [some (V.ref a), some (.ref L), a2, a3] ∧ Same H (upd H5 L (.lst (ys ++ [.str x]))) ∧ (upd H5 L (.lst (ys ++ [.str x]))) L = some (.lst (gs2.map V.str)) ∧ leadH [] ((ls.take (i + 1)).map fun l => Txt.split l " ") = gs2 ∧ gs2.length = i + 1 := fun lh => by
          have nx : nextH gs [a0, x] = some x := by
            unfold nextH
            rw [ho]
            show (if lastH gs x = true then some x else none) = some x
            rw [if_pos lh]
          refine ⟨_, hL5, ?_, _, _, gs ++ [x], rfl, same_upd2 s05 nL, ?_, go x nx, ?_⟩
          · rw [List.length_map, lg]
            exact small200 (by omega)
          · rw [upd_same, List.map_append]
            rfl
          · rw [List.length_append, lg]
            rfl
        refine ⟨_, rfl, _, .inl ⟨_, SqL.of hL5, rfl⟩, ?_⟩
        rcases List.eq_nil_or_concat gs with e0 | ⟨gs0, y, e0⟩
        · rw [e0]
          refine iteF ?_
          obtain ⟨ys, f1, f2, f3⟩ := fin (by rw [e0]; rfl)
          exact ⟨_, rfl, .inl ⟨rfl, _, SqL.of f1⟩, _, rfl, Lp, _, 1, .str x, rfl, rfl, SqL.of g5, atI_nat (j := 1) rfl, L, _, _, rfl, rfl, f1, f2, f3⟩
        · rw [List.concat_eq_append] at e0
          rw [show (!(gs.map V.str).isEmpty) = true by rw [e0, List.map_append]; simp]
          refine iteT ?_
          have la : atI (gs.map V.str) (-1) = some (.str y) := by
            rw [e0]
            exact last_is _ _
          have lh : lastH gs x = ltS y x := by
            unfold lastH
            rw [e0, List.getLast?_append]
            rfl
          refine ⟨_, rfl, Lp, _, 1, .str x, rfl, rfl, SqL.of g5, atI_nat (j := 1) rfl, _, rfl, 1, rfl, L, _, -1, .str y, rfl, rfl, SqL.of hL5, la, _, _, rfl, rfl, _, rfl, ?_⟩
          cases lx : ltS y x with
          | true =>
            rw [show decide (y.cps.toList < x.cps.toList) = true from lx]
            refine iteF ?_
            obtain ⟨ys, f1, f2, f3⟩ := fin (by rw [lh, lx])
            exact ⟨_, rfl, .inl ⟨rfl, _, SqL.of f1⟩, _, rfl, Lp, _, 1, .str x, rfl, rfl, SqL.of g5, atI_nat (j := 1) rfl, L, _, _, rfl, rfl, f1, f2, f3⟩
          | false =>
            rw [show decide (y.cps.toList < x.cps.toList) = false from lx]
            refine iteT ⟨_, rfl, out ?_ s05 hL5⟩
            unfold nextH
            rw [ho]
            show (if lastH gs x = true then some x else none) = none
            rw [lh, lx, if_neg Bool.false_ne_true]
    · rintro σ H2 ⟨a2, a3, gs, rfl, s2, hL, lead, lg⟩
      rw [List.length_map, List.take_of_length_le (Nat.le_refl _)] at lead
      exact ⟨_, rfl, q _ L s2 nL (by rw [lead]; exact hL)⟩
end
end My

namespace My
open PySem PySem.Spec PyProof.Rows L2 Gy Xl Xs Xt Xo Xp
/-- a class of errors of one field that is raised in an except suite too -/
structure RzH (P : Program) (w : World) (K : PySem.W.Frag) (mg : Str → Option Value) (base : Heap) (nm f : Str) (C : Addr) : Prop where
  gm : mg nm = some (.ref C)
  ty : PySem.W.typeIn K (.ref C) = some (.type "type")
  ex : ∃ (fI : Addr) (fd : FuncData), XIn K C fI ∧ FnOk P w K mg base CX0 1 fI fd ["self", f] (spI1 C f) ∧ L2H.FnH P w K mg base CX0 1 fI fd ["self", f] (spI1 C f) ∧ XB K fd ["self", f] [] (fun us _ => us) (fun vs _ => vs)
theorem same_none {H H' : Hp} {a : Addr} (s : Same H H') (n : H' a = none) : H a = none := by
  cases z : H a with
  | none => rfl
  | some o => rw [s _ _ z] at n; cases n
theorem prs_get {H : Hp} {us : List V} {ls : List (Str × Str)} (h : Prs H us ls) {i : Nat} {v : V} (e : us[i]? = some v) : ∃ p t, ls[i]? = some p ∧ v = .ref t ∧ Tz H t [.str p.1, .str p.2] := by
  obtain ⟨p, hp, t, e2, z⟩ := h.get e
  exact ⟨p, t, hp, e2, z⟩
def nlB (ps : List (Str × Str)) : List Str → Bool
  | [x, y] => ltS x y && lastL ps (x, y)
  | _ => false
theorem nlB_no {ps : List (Str × Str)} {ws : List Str} (h : ws.length ≠ 2) : nlB ps ws = false := by
  match ws, h with
  | [], _ => rfl
  | [_], _ => rfl
  | [_, _], h => exact absurd rfl h
  | _ :: _ :: _ :: _, _ => rfl
theorem lastL_app (qs : List (Str × Str)) (q p : Str × Str) : lastL (qs ++ [q]) p = lexS q p := by
  unfold lastL
  rw [List.getLast?_append]
  rfl
section
variable {P : Program} {w : World} {K : PySem.W.Frag} {mg : Str → Option Value} {base : Heap} {H : Hp} {C CI CL : Addr}
theorem prs_off {ns : List Str} {ad : Str → Addr} {La : Addr} {H H' : Hp} {f : Str → List Str} (g : Gr H La ns f ad) (o : Off ns ad H H') : ∀ {vs : List V} {ps : List (Str × Str)}, Prs H vs ps → Prs H' vs ps
  | _, _, .nil => .nil
  | _, _, .cons ⟨t, e, u, z, c⟩ r => .cons ⟨t, e, u, o t _ (fun x hx w => by
      have n := g.nb x hx
      rw [← w, z] at n
      cases n) z, c⟩ (prs_off g o r)
def spNL : Sp := fun vs H Q _ => ∃ (l t : Addr) (us : List V) (ps : List (Str × Str)) (ws : List Str), vs = [.ref l, .ref t] ∧ H l = some (.lst us) ∧ Prs H us ps ∧ Tz H t (ws.map V.str) ∧ Q (.bl (nlB ps ws)) H
theorem ok_nl {f : Addr} {fd : FuncData} (F : Fun K "is_next_link" "is_next_link" s_is_next_link f fd) (Y : Bn mg) : FnOk P w K mg base CX0 1 f fd ["links", "link"] spNL := by
  refine F.ok sc_is_next_link (fun vs H Q E h => ?_) (fun cdv A outer s H vs Q E hr h => ?_)
  · obtain ⟨l, t, us, ps, ws, rfl, _⟩ := h
    rfl
  · obtain ⟨l, t, us, ps, ws, rfl, hl, pr, zt, q⟩ := h
    have hu64 := hr.units
    have huc := Nat.lt_of_le_of_lt (Nat.le_add_right _ 64) hu64
    refine ⟨_, (pss_cons (ps_if (PW.pt (pw_or (pt_cmpR op_ne (pe_callB call_len_seq (by rfl) Y.len PySem.boot_len (pa_cons (pv 1) pa_nil)) pe_int (nomark _)) (pw_or1 (pt_not (pt_cmpR op_lt_str (pe_ix ix_tup (pv 1) pe_int (fun _ _ => rfl)) (pe_ix ix_tup (pv 1) pe_int (fun _ _ => rfl)) (nomark _))))))
 (pss_one (ps_ret pe_bl))
 pss_nil)
 (pss_one (ps_ret (pe_or (pe_notT (pv 0)) (pe_one (pe_cmpR (op_ltP huc) (pe_ix ix_list (pv 0) (pe_un un_neg pe_int) (fun _ _ => rfl)) (pv 1) (nomark _))))))), ?_⟩
    refine ⟨_, rfl, t, _, rfl, .inr zt.sq, rfl, _, rfl, ?_⟩
    have two : ws.length = 2 ∨ ws.length ≠ 2 := by omega
    rcases two with l2 | l2
    rotate_left
    · rw [List.length_map, decide_eq_false (show ¬ V.int (ws.length : Int) = V.int 2 from fun z => l2 (by injection z with z; omega))]
      rw [nlB_no l2] at q
      exact iteT (iteT q)
    obtain ⟨x, y, rfl⟩ : ∃ x y, ws = [x, y] := by
      match ws, l2 with
      | [x, y], _ => exact ⟨x, y, rfl⟩
    refine iteNS rfl ?_
    refine ⟨_, rfl, t, _, 0, .str x, rfl, rfl, zt.sq, atI_nat (j := 0) rfl, _, rfl, t, _, 1, .str y, rfl, rfl, zt.sq, atI_nat (j := 1) rfl, _, _, rfl, rfl, _, rfl, ?_⟩
    have q : Q (.bl (ltS x y && lastL ps (x, y))) H := q
    cases lx : ltS x y with
    | false =>
      rw [show decide (x.cps.toList < y.cps.toList) = false from lx]
      rw [lx] at q
      exact iteT q
    | true =>
      rw [show decide (x.cps.toList < y.cps.toList) = true from lx]
      rw [lx, Bool.true_and] at q
      refine iteF ?_
      refine ⟨_, rfl, _, .inl ⟨_, SqL.of hl, rfl⟩, _, rfl, ?_⟩
      rcases List.eq_nil_or_concat ps with rfl | ⟨qs, q0, rfl⟩
      · cases pr
        exact iteT q
      · rw [List.concat_eq_append] at pr q
        have ul := prs_len pr
        rw [List.length_append, List.length_singleton] at ul
        obtain ⟨v, hv⟩ : ∃ v, us[qs.length]? = some v := ⟨_, List.getElem?_eq_getElem (by omega)⟩
        obtain ⟨e, te, he, rfl, tz⟩ := prs_get pr hv
        rw [List.getElem?_append_right (Nat.le_refl _), Nat.sub_self] at he
        cases he
        have eu : us = us.take qs.length ++ [.ref te] := by
          conv => lhs; rw [← List.take_of_length_le (l := us) (i := qs.length + 1) (by omega)]
          exact take_last hv
        have em : us.isEmpty = false := by
          rw [eu]
          simp
        rw [em]
        refine iteF ?_
        have la : atI us (-1) = some (.ref te) := by
          rw [eu]
          exact atI_last _ _
        refine ⟨_, rfl, 1, rfl, l, _, -1, .ref te, rfl, rfl, SqL.of hl, la, _, rfl, te, t, q0, (x, y), rfl, rfl, tz, zt, ?_⟩
        rw [lastL_app] at q
        exact q
end
end My

/-! name = {k: v for ..} on one line, the name a local: over the dict comprehension's own rule. -/
namespace Xo
open PySem PySem.Spec PyProof.Rows L2 Gy Xt Xp
section
variable {X : Cx}
theorem swd_true {ke ve : Expr} {gs : List Comprehension} {sco : Scope} {cp np : Pos} {nm : Str} {l : Nat} {en : Env} (fk : en.scope.kind = .function) (lc : en.scope.names.lookup nm = some .local) (ln : (np.line == cp.line) = true)
    (no : (sco.names.any fun q => q.1 == nm && (q.2 == .local || q.2 == .cell)) = false) : swapsWith (.DictComp ke ve gs sco cp) (some (.Name nm np)) l en = pure true := by
  have e1 : en.kindOf nm = some .local := lc
  have e2 : en.blockKind = .function := by
    unfold Env.blockKind
    rw [fk]
    rfl
  unfold swapsWith
  simp only [e2, e1, no, Expr.pos, ln]
  rfl
theorem ps_setDc {n : Nat} {nm : Str} {np : Pos} {ke ve tge ite : Expr} {fs : List Expr} {sco : Scope} {ow : List (Str × Nat)} {cp sp : Pos} {jt : TI} {gt : TG} {tst : TT} {rk rv : TE} (calm : X.calm = true) (nd : X.N.Nodup) (an : X.N[n]? = some nm) (lc : X.env.scope.names.lookup nm = some .local)
    (sw : swapsWith (.DictComp ke ve [⟨tge, ite, fs, 0⟩] sco cp) (some (.Name nm np)) sp.line X.env = pure true) (pit : PI X tge ite jt) (bk : BlkOk X.N X.env.scope sco ow)
    (p1 : ∀ (z : Shared) (G : Hp) (C : Addr) (cs : List (Str × Addr)) (fp : List Addr), PG (X.blk z G sco (compEnvC sco cs C X.env) fp) tge gt) (p2 : ∀ (z : Shared) (G : Hp) (C : Addr) (cs : List (Str × Addr)) (fp : List Addr), PTs (X.blk z G sco (compEnvC sco cs C X.env) fp) fs tst)
    (p3 : ∀ (z : Shared) (G : Hp) (C : Addr) (cs : List (Str × Addr)) (fp : List Addr), PE (X.blk z G sco (compEnvC sco cs C X.env) fp) ke rk) (p4 : ∀ (z : Shared) (G : Hp) (C : Addr) (cs : List (Str × Addr)) (fp : List Addr), PE (X.blk z G sco (compEnvC sco cs C X.env) fp) ve rv)
    (nf : ∀ u, foldedSetIterable ite X.env u = pure u := by intro _; rfl) : PS X (.Assign [.Name nm np] (.DictComp ke ve [⟨tge, ite, fs, 0⟩] sco cp) sp) (tAsg (tDc jt gt tst rk rv (ow.map (·.2))) (gName n)) := by
  constructor
  intro pn z sl G en inv rd
  rw [exec_Assign_Name_used _ _ _ _ sw]
  apply wpAny_bind; apply wpAny_standAt; apply wpAny_bind
  show wpAny _ X.A (do let _ ← comprehension (.DictComp ke ve [⟨tge, ite, fs, 0⟩] sco cp) sco X.env (firstIterPos [⟨tge, ite, fs, 0⟩] cp) newDict false (eval ite X.env) (some (assign (.Name nm np) X.env))) _ _ z
  have rd2 : tDc jt gt tst rk rv (ow.map (·.2)) sl G (fun u G1 => gName n u sl G1 en.nx) := rd
  apply wpAny_bind
  refine thn (dc_core (Qf := fun _ y => SP X pn en .next y) calm nd inv pit bk p1 p2 p3 p4 nf rd2 fun D C y m G2 inv2 k nsC fpC => ?_) fun _ y k => wpAny_pure (wpAny_pure k)
  show wpAny _ _ (assign (.Name nm np) X.env (.ref D)) _ _ _
  apply wpAny_assign_Name
  refine store_ok2 (v := V.ref D) inv2 nd an (.inl lc) rfl (fun y2 inv3 w3 => ?_) (.inr lc)
  obtain ⟨c, sb, hc⟩ := w3
  obtain ⟨g0, g1, g2, g3, g4, g5⟩ := fpC
  have neC : C ≠ c := by
    cases hc with
    | inl e => rw [e]; exact g1
    | inr e => exact fun w => g4 nm c e w.symm
  exact ⟨m, nsC.sameBut sb neC, fun y3 sb3 => ⟨_, G2, inv3.turned (t' := y2.toks) (fun b o hb e => (sb3.2 b hb).trans e) g0 g1 g3 g4 g5, k⟩⟩
end
end Xo

namespace My
open PySem PySem.Spec PyProof.Rows L2 Gy Xl Xs Xt Xo Xp
/-! ### links that follow -/
theorem follL_app {hs : List Str} {q : List Str} {r : List (List Str)} {gs : List (Str × Str)} : ∀ {ps : List (List Str)} {ls : List (Str × Str)}, follL hs ls ps = (gs, true) → follL hs ls (ps ++ q :: r) = follL hs gs (q :: r)
  | [], ls, h => by
    have h : (ls, true) = (gs, true) := h
    injection h with h
    rw [h]
    rfl
  | p :: ps, ls, h => by
    rw [List.cons_append]
    unfold follL at h ⊢
    cases e : nextL hs ls p with
    | none =>
      rw [e] at h
      have h : (ls, false) = (gs, true) := h
      injection h with _ h
      cases h
    | some x =>
      rw [e] at h
      exact follL_app (ps := ps) h
theorem lastH_lt {hs : List Str} {x : Str} (pw : hs.Pairwise fun a b => ltS a b = true) (h : lastH hs x = true) : ∀ a ∈ hs, ltS a x = true := fun a ha => by
  rcases List.eq_nil_or_concat hs with rfl | ⟨gs, y, rfl⟩
  · cases ha
  · rw [List.concat_eq_append] at pw h ha
    have lt : ltS y x = true := by
      unfold lastH at h
      rw [List.getLast?_append] at h
      exact h
    rcases List.mem_append.mp ha with m | m
    · exact ltS_trans ((List.pairwise_append.mp pw).2.2 a m y List.mem_cons_self) lt
    · rw [List.mem_singleton.mp m]
      exact lt
theorem leadH_ok : ∀ {ps : List (List Str)} {hs : List Str}, (hs.Pairwise fun a b => ltS a b = true) → (∀ x ∈ hs, Nm x) → ((leadH hs ps).Pairwise fun a b => ltS a b = true) ∧ (∀ x ∈ leadH hs ps, Nm x) ∧ (leadH hs ps).length ≤ hs.length + ps.length
  | [], hs, h1, h2 => ⟨h1, h2, Nat.le_refl _⟩
  | p :: ps, hs, h1, h2 => by
    unfold leadH
    cases e : nextH hs p with
    | none => exact ⟨h1, h2, Nat.le_add_right _ _⟩
    | some x =>
      unfold nextH at e
      cases eo : hostOf p with
      | none =>
        rw [eo] at e
        cases e
      | some y =>
        rw [eo] at e
        have e : (if lastH hs y = true then some y else none) = some x := e
        split at e
        · next c =>
          injection e with e
          subst e
          obtain ⟨_, tx⟩ := hostOf_some eo
          have lt := lastH_lt h1 c
          obtain ⟨r1, r2, r3⟩ := leadH_ok (ps := ps) (hs := hs ++ [y]) (List.pairwise_append.mpr ⟨h1, List.pairwise_singleton _ _, fun a ha b hb => by rw [List.mem_singleton.mp hb]; exact lt a ha⟩) fun z hz => by
            rcases List.mem_append.mp hz with m | m
            · exact h2 z m
            · rw [List.mem_singleton.mp m]
              exact host_nm tx
          refine ⟨r1, r2, ?_⟩
          rw [List.length_append] at r3
          have r3 : _ ≤ hs.length + 1 + ps.length := r3
          rw [List.length_cons]
          show (leadH (hs ++ [y]) ps).length ≤ _
          omega
        · cases e
theorem asc_nd {hs : List Str} (pw : hs.Pairwise fun a b => ltS a b = true) : hs.Nodup := pw.imp fun {a b} h e => by
  rw [e, ltS_irr] at h
  cases h
noncomputable def fl (hs ls : List Str) : List (Str × Str) × Bool := follL hs [] ((ls.drop hs.length).map fun l => Txt.split l " ")
theorem sml_tw {p : List Str} (h : p.length ≤ 900) (h2 : ∀ x ∈ p, x.length ≤ 2000) : sml (.tuple (p.map PyData.str)) = true := by
  show (decide ((p.map PyData.str).length ≤ 1000) && smls (p.map PyData.str)) = true
  rw [decide_eq_true (by rw [List.length_map]; omega), Bool.true_and]
  induction p with
  | nil => rfl
  | cons x p ih =>
    show (sml (.str x) && smls (p.map PyData.str)) = true
    rw [ih (by rw [List.length_cons] at h; omega) fun y hy => h2 y (List.mem_cons_of_mem _ hy), Bool.and_true]
    exact decide_eq_true (by have := h2 x List.mem_cons_self; omega)
section
variable {P : Program} {w : World} {K : PySem.W.Frag} {mg : Str → Option Value} {base : Heap} {H : Hp} {C CI CL : Addr}
theorem dns_tx : ∀ xs : List Str, Dns K H (xs.map V.str) (xs.map PyData.str)
  | [] => .nil
  | x :: xs => .cons (.str x) (dns_tx xs)
def spFL (CL : Addr) : Sp := fun vs H Q E => ∃ (a b : Addr) (ls hs : List Str), vs = [.ref a, .ref b] ∧ H a = some (.lst (ls.map V.str)) ∧ H b = some (.lst (hs.map V.str)) ∧ ls.length ≤ 60 ∧ (∀ l ∈ ls, l.length ≤ 2000 ∧ (Txt.split l " ").length ≤ 900 ∧ ∀ x ∈ Txt.split l " ", x.length ≤ 2000) ∧ hs.length ≤ ls.length ∧ hs.Nodup ∧ (∀ x ∈ hs, Nm x) ∧
  ((fl hs ls).2 = false → Ro E CL "line" (.int ((hs.length : Int) + ((fl hs ls).1.length : Int) + 1)) H) ∧
  ((fl hs ls).2 = true → ∀ H' L us, Same H H' → H L = none → H' L = some (.lst us) → Prs H' us (fl hs ls).1 → (fl hs ls).1.length ≤ 60 → (∀ p ∈ (fl hs ls).1, Nm p.1 ∧ Nm p.2) → Q (.ref L) H')
theorem ok_fl {f : Addr} {fd : FuncData} (F : Fun K "following_links" "following_links" s_following_links f fd) (Y : Bn mg) (R : RzH P w K mg base "InvalidLine" "line" CL) (gI : mg "InvalidTree" = some (.ref CI)) (xm : PySem.W.exmOne K (.ref CI) (.ref CI) = some true) (G_is_next_link : Fk P w K mg base CX0 1 "is_next_link" ["links", "link"] spNL)
    (G_join_ends : Fk P w K mg base (L2N.CX P w) 5 "join_ends" ["linked", "link"] (spJoin K CI)) : FnOk P w K mg base (L2.CX P w) 6 f fd ["lines", "hosts"] (spFL CL) := by
  obtain ⟨fI, fdI, XI, GI, GH, bI⟩ := R.ex
  refine F.okX sc_following_links (fun vs H Q E h => ?_) (fun cdv A outer s H vs Q E hr h => ?_)
  · obtain ⟨a, b, ls, hs, rfl, _⟩ := h
    rfl
  · obtain ⟨a, b, ls, hs, rfl, ha, hb, l60, ll, hl, nd, nm, qE, q⟩ := h
    have hu1 := Nat.lt_of_le_of_lt (Nat.add_le_add_left (show 1 ≤ 64 by decide) _) hr.units
    refine ⟨_, (pss_cons (ps_setDc (n := 2) (ow := [("host", 7)]) (gt := gName 7) (tst := tYes) rfl sc_following_links.nd rfl rfl (swd_true rfl rfl rfl (by decide +kernel)) (pi_list (pv 1)) (blkOk_by (N := ["lines", "hosts", "linked", "links", "index", "parts", "link", "host"]) (sc := defScope s_following_links) (by decide +kernel)) (fun _ _ _ _ _ => (pg_name (i := 7) sc_following_links.nd rfl (Or.inl rfl))) (fun _ _ _ _ _ => pts_nil) (fun _ _ _ _ _ => (pv 7)) (fun _ _ _ _ _ => (pe_lst pa_nil)))
 (pss_cons (ps_set (i := 3) sc_following_links.nd rfl (.inl rfl) (pe_lst pa_nil))
 (pss_cons (ps_for (passes_of rfl) rfl (pi_range2 (by rfl) Y.range (pa_cons (pe_callB call_len_seq (by rfl) Y.len PySem.boot_len (pa_cons (pv 1) pa_nil)) (pa_cons (pe_callB call_len_seq (by rfl) Y.len PySem.boot_len (pa_cons (pv 0) pa_nil)) pa_nil))) (pg_name (i := 4) sc_following_links.nd rfl (Or.inl rfl))
 (pss_cons (ps_set (i := 5) sc_following_links.nd rfl (.inl rfl) (pe_split (pe_ix ix_list (pv 0) (pv 4) (fun _ _ => rfl)) pe_str))
 (pss_cons (ps_set (i := 6) sc_following_links.nd rfl (.inl rfl) (pe_callTy call_tupOf (by rfl) Y.tuple (by decide +kernel) (pa_cons (pe_slice sl_list (pv 5) (po_some pe_int) po_none) pa_nil)))
 (pss_cons (ps_if (PW.pt (pw_or (pt_cmpR op_ne (pe_ix ix_list (pv 5) pe_int (fun _ _ => rfl)) pe_str (nomark _)) (pw_or1 (pt_not (pt_val (pe_callF G_is_next_link (hr.mono (by decide)) (by rfl) pass0 (pa_cons (pv 3) (pa_cons (pv 6) pa_nil))))))))
 (pss_one (ps_raise1 rfl (takes_of rfl rfl rfl rfl) XI R.ty GI (hr.mono (by decide)) bI (by rfl) R.gm (pa_cons (pe_op op_add (pv 4) pe_int) pa_nil)))
 pss_nil)
 (pss_cons (L2H.ps_try_onlyX rfl rfl ⟨by rfl, by decide, .inl gI⟩ (L2H.passesAt_of rfl) (takes_of rfl rfl rfl rfl) (fun W pn xe tk _ _ => pss_one (ps_expr (pe_callSF G_join_ends (hr.mono (by decide)) (by rfl) (fun σ => L2N.passAt tk σ) (pa_cons (pv 2) (pa_cons (pv 6) pa_nil))))) (fun a oe cls d pn hz hd tk hot => pss_one (L2H.ps_raiseHN hot tk (pmk5_x1 XI R.ty GH (L2H.roomH_mark (hr.mono (by decide)) _) hot bI (by rfl) R.gm (pa_cons (pe_op op_add (pv 4) pe_int) pa_nil)))))
 (pss_one (ps_expr (pe_bm PySem.F.plainAttrs_list PySem.F.slot_list_append PySem.F.type_list_append mt_append (pv 3) (pa_cons (pv 6) pa_nil)))))))))
 (pss_one (ps_ret (pv 3)))))), ?_⟩
    have pws : hs.Nodup := nd
    refine ⟨_, rfl, b, rfl, ⟨_, SqL.of hb⟩, fun D nD => ?_⟩
    refine dc_it (walk_list (K := K) (a := b) (xs := hs.map V.str)) (fun i H' => Same H H' ∧ ∃ ad : Str → Addr, H' D = some (.dK (gkv (hs.take i) ad)) ∧ (∀ x ∈ hs.take i, H' (ad x) = some (.lst [])) ∧ (∀ x ∈ hs.take i, H (ad x) = none ∧ ad x ≠ D) ∧ ∀ x ∈ hs.take i, ∀ y ∈ hs.take i, ad x = ad y → x = y)
      ⟨same_upd nD, fun _ => 0, upd_same, (fun _ z => nomatch z), (fun _ z => nomatch z), (fun _ z => nomatch z)⟩ (fun i H' _ h => SqL.of (h.1 _ _ hb)) ?_ ?_
    · rintro i y H5 H6 hi ⟨s5, ad, hD, nb, fr, inj⟩ ⟨rfl, hy⟩
      rw [List.getElem?_map] at hy
      obtain ⟨x, hx, rfl⟩ := Option.map_eq_some_iff.mp hy
      have nx : x ∉ hs.take i := fun z => by
        have nd2 : (hs.take (i + 1)).Nodup := nd.sublist (List.take_sublist _ _)
        rw [take_last hx, List.nodup_append] at nd2
        exact nd2.2.2 x z x List.mem_cons_self rfl
      refine ⟨rfl, ?_⟩
      dsimp only [tYes]
      refine iteT ?_
      refine ⟨_, rfl, Nat.zero_le _, fun r nr => ?_⟩
      have nr0 : H r = none := same_none s5 nr
      have nDr : D ≠ r := ne_of_none hD nr
      have lt : (hs.take i).length ≤ 60 := by
        rw [List.length_take]
        omega
      refine ⟨_, .inr x, rfl, (by rw [upd_ne nDr]; exact hD), (by unfold gkv; rw [List.length_map]; exact small200 (by omega)), ?_⟩
      rw [gkv_snoc nx, take_last hx]
      refine ⟨same_upd2 (s5.trans (same_upd nr)) nD, _, upd_same, fun z hz => ?_, fun z hz => ?_, fun z hz u hu e => ?_⟩
      · by_cases e : z = x
        · rw [if_pos e, upd_ne nDr.symm, upd_same]
        · have hz' := (List.mem_append.mp hz).resolve_right fun w => e (List.mem_singleton.mp w)
          rw [if_neg e, upd_ne (fr z hz').2, upd_ne (ne_of_none (nb z hz') nr)]
          exact nb z hz'
      · by_cases e : z = x
        · rw [if_pos e]
          exact ⟨nr0, nDr.symm⟩
        · rw [if_neg e]
          exact fr z ((List.mem_append.mp hz).resolve_right fun w => e (List.mem_singleton.mp w))
      · have mem : ∀ t, t ∈ hs.take i ++ [x] → t ≠ x → t ∈ hs.take i := fun t ht n => (List.mem_append.mp ht).resolve_right fun w => n (List.mem_singleton.mp w)
        by_cases e1 : z = x
        · by_cases e2 : u = x
          · rw [e1, e2]
          · rw [if_pos e1, if_neg e2] at e
            exact absurd e.symm (ne_of_none (nb u (mem u hu e2)) nr)
        · by_cases e2 : u = x
          · rw [if_neg e1, if_pos e2] at e
            exact absurd e (ne_of_none (nb z (mem z hz e1)) nr)
          · rw [if_neg e1, if_neg e2] at e
            exact inj z (mem z hz e1) u (mem u hu e2) e
    rintro H1 ⟨s1, ad, hD, nb, fr, inj⟩
    rw [List.length_map, List.take_of_length_le (Nat.le_refl _)] at hD nb fr inj
    have nad : ∀ x ∈ hs, H (ad x) = none := fun x hx => (fr x hx).1
    refine ⟨Nat.zero_le _, fun Lk nLk => ?_⟩
    generalize hg : upd H1 Lk _ = H2
    obtain ⟨s2, g2⟩ := upd_new hg nLk
    clear hg
    have s02 := s1.trans s2
    have gr2 : Gr H2 D hs (adj []) ad := ⟨s2 _ _ hD, fun x hx => s2 _ _ (nb x hx), inj, nd⟩
    have neLk : ∀ x ∈ hs, Lk ≠ ad x := fun x hx z => by
      have n := nb x hx
      rw [← z, nLk] at n
      cases n
    have nLk0 : H Lk = none := same_none s1 nLk
    refine ⟨_, rfl, b, _, rfl, .inl (SqL.of (s02 _ _ hb)), _, rfl, a, _, rfl, .inl (SqL.of (s02 _ _ ha)), _, _, rfl, ?_, ?_⟩
    · rw [List.length_map, List.length_map]
      omega
    rw [List.length_map, List.length_map]
    have en : ((ls.length : Int) - (hs.length : Int)).toNat = ls.length - hs.length := by omega
    rw [en]
    refine for_it (walk_range (lo := (hs.length : Int)) (n := ls.length - hs.length)) (fun i σ H' => ∃ a4 a5 a6 ks, σ = [some (.ref a), some (.ref b), some (.ref D), some (.ref Lk), a4, a5, a6, none] ∧ Same H H' ∧ Gr H' D hs (adj ks) ad ∧ follL hs [] (((ls.drop hs.length).take i).map fun l => Txt.split l " ") = (ks, true) ∧ ks.length = i ∧ (∀ p ∈ ks, p.1 ∈ hs ∧ p.2 ∈ hs) ∧ ∃ us, H' Lk = some (.lst us) ∧ Prs H' us ks)
      ⟨none, none, none, [], rfl, s02, gr2, rfl, rfl, (fun _ z => nomatch z), [], g2, .nil⟩ (fun _ _ _ _ _ => trivial) ?_ ?_
    · rintro i y σ H3 H4 hi ⟨a4, a5, a6, ks, rfl, s3, g3, fo, lk, ke, us, hL, pr⟩ ⟨rfl, rfl⟩
      have hi' : hs.length + i < ls.length := by omega
      obtain ⟨ln, hln⟩ : ∃ ln, ls[hs.length + i]? = some ln := ⟨_, List.getElem?_eq_getElem hi'⟩
      have mln := List.mem_of_getElem? hln
      have hd : (ls.drop hs.length)[i]? = some ln := by rw [List.getElem?_drop]; exact hln
      obtain ⟨lnl, lnb, lnw⟩ := ll ln mln
      have dec : ls.drop hs.length = (ls.drop hs.length).take i ++ ln :: (ls.drop hs.length).drop (i + 1) := by
        conv => lhs; rw [← List.take_append_drop i (ls.drop hs.length)]
        rw [drop_at hd]
      have stop : nextL hs ks (Txt.split ln " ") = none → fl hs ls = (ks, false) := fun e => by
        unfold fl
        rw [dec, List.map_append, List.map_cons, follL_app fo]
        unfold follL
        rw [e]
      have go : ∀ x, nextL hs ks (Txt.split ln " ") = some x → follL hs [] (((ls.drop hs.length).take (i + 1)).map fun l => Txt.split l " ") = (ks ++ [x], true) := fun x e => by
        rw [take_last hd, List.map_append, List.map_cons, List.map_nil, follL_app fo]
        unfold follL
        rw [e]
        rfl
      have ha3 := s3 _ _ ha
      have el : (ls.map V.str)[hs.length + i]? = some (.str ln) := by rw [List.getElem?_map, hln]; rfl
      have bad : nextL hs ks (Txt.split ln " ") = none → ∀ {H' : Hp} {v : Int}, Same H H' → v = (hs.length : Int) + (i : Int) + 1 → Ro E CL "line" (.int v) H' := fun e H' v s ev => by
        have z := qE (by rw [stop e])
        rw [stop e] at z
        rw [ev]
        have z : Ro E CL "line" (.int ((hs.length : Int) + (ks.length : Int) + 1)) H := z
        rw [lk] at z
        exact z.same s
      refine ⟨_, rfl, _, rfl, a, _, ((hs.length + i : Nat) : Int), .str ln, rfl, congrArg V.int (by omega), SqL.of ha3, atI_nat el, ⟨_, rfl⟩, _, _, rfl, rfl, rfl, le200 (by omega), fun Lp nLp => ?_⟩
      generalize hg : upd H4 Lp _ = H5
      obtain ⟨s5, g5⟩ := (show Same H4 H5 ∧ H5 Lp = some (.lst ((Txt.split ln " ").map V.str)) by rw [← hg]; exact ⟨same_upd nLp, upd_same⟩)
      clear hg
      have sne := split_ne ln
      generalize hps : Txt.split ln " " = ps at g5 stop go bad lnb lnw sne
      obtain ⟨p0, rest, rfl⟩ := List.exists_cons_of_ne_nil sne
      have g5 : H5 Lp = some (.lst (.str p0 :: rest.map V.str)) := g5
      refine ⟨_, rfl, 1, rfl, Lp, _, rfl, SqL.of g5, fun l6 nl6 => ?_⟩
      rw [cut1]
      generalize hg : upd H5 l6 _ = H6
      obtain ⟨s6, g6⟩ := upd_new hg nl6
      clear hg
      rw [List.length_cons] at lnb
      refine ⟨l6, _, rfl, SqL.of g6, (by rw [List.length_map]; omega), fun t o nt st zt => ?_⟩
      generalize upd H6 t o = H7 at st zt ⊢
      have s47 := (s5.trans s6).trans st
      have s67 := s6.trans st
      have s07 := s3.trans s47
      have pr7 := pr.same s47
      have g7 := g3.same s47
      have hL7 := s47 _ _ hL
      refine ⟨_, rfl, Lp, _, 0, .str p0, rfl, rfl, SqL.of (s67 _ _ g5), atI_nat (j := 0) rfl, rfl, _, rfl, ?_⟩
      have err : nextL hs ks (p0 :: rest) = none → ∀ {H' : Hp} {v : Int}, Same H H' → v = (hs.length : Int) + (i : Int) + 1 → ∀ dx, H' dx = none → E (.ref CL) (some dx) (upd H' dx (.xd [("line", .int v)])) := fun e H' v s ev dx nd => bad e s ev _ dx (same_upd nd) upd_same
      by_cases e0 : p0 = "link"
      rotate_left
      · rw [decide_eq_false (show ¬ V.str p0 = V.str "link" from fun z => e0 (by injection z))]
        refine iteT (iteT ⟨_, rfl, _, _, rfl, rfl, _, rfl, fun dx nd => err ?_ s07 (by omega) dx nd⟩)
        refine nextL_no ?_
        cases z : linkOf (p0 :: rest) with
        | none => rfl
        | some p => 
          obtain ⟨z, _⟩ := linkOf_some z
          injection z with z
          exact absurd z e0
      rw [decide_eq_true (show V.str p0 = V.str "link" by rw [e0])]
      refine iteF ?_
      refine ⟨_, rfl, _, rfl, Lk, t, us, ks, rest, rfl, hL7, pr7, zt, _, rfl, ?_⟩
      cases nb2 : nlB ks rest with
      | false =>
        refine iteT ⟨_, rfl, _, _, rfl, rfl, _, rfl, fun dx nd => err ?_ s07 (by omega) dx nd⟩
        unfold nextL
        cases z : linkOf (p0 :: rest) with
        | none => rfl
        | some p =>
          obtain ⟨z, lt⟩ := linkOf_some z
          injection z with _ z
          dsimp only
          rw [if_neg]
          rintro ⟨c, _⟩
          rw [z] at nb2
          have nb2 : (ltS p.1 p.2 && lastL ks p) = false := nb2
          rw [lt, c] at nb2
          cases nb2
      | true =>
        refine iteF ?_
        obtain ⟨x, y, rfl, lt, la⟩ : ∃ x y, rest = [x, y] ∧ ltS x y = true ∧ lastL ks (x, y) = true := by
          match rest, nb2 with
          | [x, y], h =>
            have h : (ltS x y && lastL ks (x, y)) = true := h
            rw [Bool.and_eq_true] at h
            exact ⟨x, y, rfl, h.1, h.2⟩
        have lo : linkOf [p0, x, y] = some (x, y) := by
          rw [linkOf3, if_pos ⟨e0, lt⟩]
        have ne : x ≠ y := fun z => by
          rw [z, ltS_irr] at lt
          cases lt
        have nx : nextL hs ks [p0, x, y] = if x ∈ hs ∧ y ∈ hs ∧ rcB ks x y = false then some (x, y) else none := by
          unfold nextL
          rw [lo]
          dsimp only
          by_cases c : x ∈ hs ∧ y ∈ hs ∧ rcB ks x y = false
          · rw [if_pos ⟨la, c⟩, if_pos c]
          · rw [if_neg fun z => c z.2, if_neg c]
        have dn : Dn K H7 (.ref t) (.tuple [.str x, .str y]) := .tup zt (.cons (.str _) (.cons (.str _) .nil))
        have sm : sml (.tuple [.str x, .str y]) = true := sml_tw (p := [x, y]) (by show 2 ≤ 900; decide) fun z hz => lnw z (List.mem_cons_of_mem _ hz)
        refine ⟨_, rfl, _, rfl, D, .ref t, .tuple [.str x, .str y], hs, ks, ad, rfl, g7, nm, ke, by omega, by omega, dn, sm, fun c => ?_, fun p hp => ?_⟩
        · have no : nextL hs ks [p0, x, y] = none := by
            rw [nx, if_neg]
            rintro ⟨m1, m2, _⟩
            have c : (if x ∈ hs ∧ y ∈ hs ∧ x ≠ y then some (x, y) else none) = none := c
            rw [if_pos ⟨m1, m2, ne⟩] at c
            cases c
          exact fun v H8 dx s8 _ _ => ⟨true, xm, fun _ a2 na2 => ⟨_, rfl, _, _, rfl, rfl, _, rfl, fun dx nd => err no (s07.trans s8) (by omega) dx nd⟩, fun z => nomatch z⟩
        · obtain ⟨ep, m1, m2, _⟩ := linkD_some hp
          obtain ⟨p1, p2⟩ := p
          have ep : PyData.tuple [.str x, .str y] = .tuple [.str p1, .str p2] := ep
          obtain ⟨rfl, rfl⟩ : x = p1 ∧ y = p2 := by
            injection ep with ep
            injection ep with e1 ep
            injection ep with e2 _
            injection e1 with e1
            injection e2 with e2
            exact ⟨e1, e2⟩
          have cyc : rcB ks x y = true → nextL hs ks [p0, x, y] = none := fun c => by
            rw [nx, if_neg]
            rintro ⟨_, _, z⟩
            rw [c] at z
            cases z
          refine ⟨fun c => ?_, fun _ c => ?_, fun _ c H8 o8 g8 => ?_⟩
          · exact fun v H8 dx s8 _ _ => ⟨true, xm, fun _ a2 na2 => ⟨_, rfl, _, _, rfl, rfl, _, rfl, fun dx nd => err (cyc (rcB_t.mpr (Rc.of_adj c))) (s07.trans s8) (by omega) dx nd⟩, fun z => nomatch z⟩
          · exact fun v H8 dx s8 _ _ => ⟨true, xm, fun _ a2 na2 => ⟨_, rfl, _, _, rfl, rfl, _, rfl, fun dx nd => err (cyc c) (s07.trans s8) (by omega) dx nd⟩, fun z => nomatch z⟩
          have nxs : nextL hs ks [p0, x, y] = some (x, y) := by rw [nx, if_pos ⟨m1, m2, c⟩]
          have s08 : Same H H8 := o8.same s07 nad
          have hL8 : H8 Lk = some (.lst us) := o8 _ _ neLk hL7
          have pr8 := prs_off g7 o8 pr7
          have t8 : Tz H8 t [.str x, .str y] := by
            obtain ⟨u, z, c⟩ := zt
            exact ⟨u, o8 t _ (fun x hx w => by
              have n := g7.nb x hx
              rw [← w, z] at n
              cases n) z, c⟩
          refine ⟨_, rfl, .inl ⟨rfl, _, SqL.of hL8⟩, _, rfl, Lk, _, _, rfl, rfl, hL8, (by rw [prs_len pr8]; exact small200 (by omega)), ?_⟩
          have hupd : ∀ x2 ∈ hs, (upd H8 Lk (.lst (us ++ [.ref t]))) (ad x2) = some (.lst ((adj (ks ++ [(x, y)]) x2).map V.str)) := fun x2 hx => by
            rw [upd_ne (neLk x2 hx).symm]
            exact g8.nb x2 hx
          refine ⟨_, _, _, ks ++ [(x, y)], rfl, same_upd2 s08 nLk0, ⟨?_, hupd, g8.inj, nd⟩, go _ nxs, ?_, ?_, us ++ [.ref t], upd_same, ?_⟩
          · rw [upd_ne (ne_of g8.at_ hL8 (by intro z; cases z))]
            exact g8.at_
          · rw [List.length_append, lk]
            rfl
          · intro p hp
            rcases List.mem_append.mp hp with m | m
            · exact ke p m
            · rw [List.mem_singleton.mp m]
              exact ⟨m1, m2⟩
          · exact prs_updL hL8 (prs_app pr8 (.cons ⟨t, rfl, t8⟩ .nil))
    · rintro σ H3 ⟨a4, a5, a6, ks, rfl, s3, g3, fo, lk, ke, us, hL, pr⟩
      rw [List.take_of_length_le (by rw [List.length_drop]; omega)] at fo
      have ef : fl hs ls = (ks, true) := fo
      refine ⟨_, rfl, q (by rw [ef]) _ Lk us s3 nLk0 hL (by rw [ef]; exact pr) (by rw [ef]; show ks.length ≤ 60; omega) (by rw [ef]; exact fun p hp => ⟨nm _ (ke p hp).1, nm _ (ke p hp).2⟩)⟩
end
end My

namespace My
open PySem PySem.Spec PyProof.Rows L2 Gy Xl Xs Xt Xo Xp
/-! ### a text is read -/
/-- the hosts and links that these lines tell, or the number of the line that is wrong (counted past the lines where no tree is told) -/
noncomputable def linesF (ls : List Str) : (List Str × List (Str × Str)) ⊕ Nat :=
  let hs := leadH [] (ls.map fun l => Txt.split l " ")
  if (fl hs ls).2 = false then .inr (hs.length + (fl hs ls).1.length + 1)
  else if hs = [] then .inr (ls.length + 1)
  else match connF hs (fl hs ls).1 with
    | some _ => .inr (ls.length + 1)
    | none => .inl (hs, (fl hs ls).1)
theorem follL_en {hs : List Str} : ∀ {ps : List (List Str)} {ls gs : List (Str × Str)}, follL hs ls ps = (gs, true) → joinF hs ls [] = .inl ls → ∃ ks, gs = ls ++ ks ∧ joinF hs ls (ks.map prD) = .inl gs
  | [], ls, gs, h, _ => by
    have h : (ls, true) = (gs, true) := h
    injection h with h
    exact ⟨[], by rw [List.append_nil, h], by rw [← h]; rfl⟩
  | p :: ps, ls, gs, h, _ => by
    unfold follL at h
    cases e : nextL hs ls p with
    | none =>
      rw [e] at h
      have h : (ls, false) = (gs, true) := h
      injection h with _ h
      cases h
    | some x =>
      rw [e] at h
      obtain ⟨ks, e1, e2⟩ := follL_en (ps := ps) h rfl
      refine ⟨x :: ks, by rw [e1, List.append_assoc]; rfl, ?_⟩
      unfold nextL at e
      cases lo : linkOf p with
      | none =>
        rw [lo] at e
        cases e
      | some y =>
        rw [lo] at e
        have e : (if lastL ls y = true ∧ y.1 ∈ hs ∧ y.2 ∈ hs ∧ rcB ls y.1 y.2 = false then some y else none) = some x := e
        split at e
        · next c =>
          injection e with e
          subst e
          obtain ⟨_, lt⟩ := linkOf_some lo
          have ne : y.1 ≠ y.2 := fun z => by
            rw [z, ltS_irr] at lt
            cases lt
          have el : linkD hs (prD y) = some y := if_pos ⟨c.2.1, c.2.2.1, ne⟩
          rw [List.map_cons, joinF_c, el]
          dsimp only
          rw [if_neg fun z => rcB_f.mp c.2.2.2 (Rc.of_adj z), c.2.2.2, if_neg Bool.false_ne_true]
          exact e2
        · cases e
theorem fl_join {hs ls : List Str} (h : (fl hs ls).2 = true) : joinF hs [] ((fl hs ls).1.map prD) = .inl (fl hs ls).1 := by
  have e : fl hs ls = ((fl hs ls).1, true) := by rw [← h]
  unfold fl at e
  obtain ⟨ks, e1, e2⟩ := follL_en e rfl
  rw [List.nil_append] at e1
  have e1 : (fl hs ls).1 = ks := e1
  rw [e1]
  rw [← e1] at e2 ⊢
  exact e2
theorem treeF_lines {hs : List Str} {ks : List (Str × Str)} (nd : hs.Nodup) (nm : ∀ x ∈ hs, Nm x) (j : joinF hs [] (ks.map prD) = .inl ks) :
    treeF (.list (hs.map PyData.str)) (.list (ks.map prD)) = if hs = [] then .inr ("hosts", .list []) else match connF hs ks with
      | some x => .inr ("connected", .str x)
      | none => .inl (hs, ks) := by
  cases hs with
  | nil => rfl
  | cons x xs =>
    rw [if_neg fun z => by cases z]
    have e : hostsQ (.list ((x :: xs).map PyData.str)) = .inl (x :: xs) := by
      have := hostsF_ok (x :: xs) [] (by rw [List.nil_append]; exact nd) nm
      rw [List.nil_append] at this
      exact this
    unfold treeF
    rw [e]
    have e2 : linksQ (x :: xs) (.list (ks.map prD)) = .inl ks := j
    dsimp only
    rw [e2]
    all_goals rfl
theorem strict_srt {hs : List Str} (pw : hs.Pairwise fun a b => ltS a b = true) : srt hs = hs := by
  exact sort_one (srt_perm hs) (srt_pw hs) (pw.imp fun {a b} h => List.not_lt.mp (of_decide_eq_false (ltS_asym h)))
section
variable {P : Program} {w : World} {K : PySem.W.Frag} {mg : Str → Option Value} {base : Heap} {H : Hp} {C CI CL : Addr}
def rLnS (K : PySem.W.Frag) : List V → Hp → VK → Prop := fun xs H Q => ∃ p ys, xs = [.ref p] ∧ (SqL K H p ys ∨ SqT K H p ys) ∧ Q (.int ys.length) H
def OkL (l : Str) : Prop := l.length ≤ 2000 ∧ (Txt.split l " ").length ≤ 900 ∧ ∀ x ∈ Txt.split l " ", x.length ≤ 2000
def spTL (C CL : Addr) : Sp := fun vs H Q E => ∃ (a : Addr) (ls : List Str), vs = [.ref a] ∧ H a = some (.lst (ls.map V.str)) ∧ ls.length ≤ 60 ∧ (∀ l ∈ ls, OkL l) ∧
  (∀ n, linesF ls = .inr n → Ro E CL "line" (.int (n : Int)) H) ∧
  (∀ hs ks, linesF ls = .inl (hs, ks) → ∀ H' p, Same H H' → Tr C H' p (srt hs) (srtF ks) → Q (.ref p) H')
theorem ok_tol {f : Addr} {fd : FuncData} (F : Fun K "tree_of_lines" "tree_of_lines" s_tree_of_lines f fd) (Y : Bn mg) (gT : mg "Tree" = some (.ref C)) (R : RzH P w K mg base "InvalidLine" "line" CL) (gI : mg "InvalidTree" = some (.ref CI)) (xm : PySem.W.exmOne K (.ref CI) (.ref CI) = some true)
    (G_leading_hosts : Fk P w K mg base CX0 3 "leading_hosts" ["lines"] spLH) (G_following_links : Fk P w K mg base (L2.CX P w) 6 "following_links" ["lines", "hosts"] (spFL CL))
    (MI : ∃ (fI : Addr) (fdI : FuncData), Mk K C fI ∧ Binds K fdI ["self", "hosts", "links"] [] ∧ FnOk P w K mg base (L2N.CX P w) 7 fI fdI ["self", "hosts", "links"] (spInit K C CI)) : FnOk P w K mg base (L2.CX P w) 9 f fd ["lines"] (spTL C CL) := by
  obtain ⟨fN, fdN, MMk, BI, FI⟩ := MI
  obtain ⟨fI, fdI, XI, GI, GH, bI⟩ := R.ex
  refine F.okX sc_tree_of_lines (fun vs H Q E h => ?_) (fun cdv A outer s H vs Q E hr h => ?_)
  · obtain ⟨a, ls, rfl, _⟩ := h
    rfl
  · obtain ⟨a, ls, rfl, ha, l60, ll, qE, q⟩ := h
    refine ⟨_, (pss_cons (ps_set (i := 1) sc_tree_of_lines.nd rfl (.inl rfl) (pe_callF G_leading_hosts (hr.mono (by decide)) (by rfl) pass0 (pa_cons (pv 0) pa_nil)))
 (pss_cons (ps_set (i := 2) sc_tree_of_lines.nd rfl (.inl rfl) (pe_callF G_following_links (hr.mono (by decide)) (by rfl) (passes_call (E := E) (takes_of rfl rfl rfl rfl) (fun _ _ _ _ h => h)) (pa_cons (pv 0) (pa_cons (pv 1) pa_nil))))
 (pss_one (L2H.ps_try_onlyX rfl rfl ⟨by rfl, by decide, .inl gI⟩ (L2H.passesAt_of rfl) (takes_of rfl rfl rfl rfl) (fun W pn xe tk _ _ => pss_one (ps_ret (pe_makeT MMk FI (hr.mono (by decide)) (by rfl) gT BI (fun σ => L2N.passAt tk σ) (pa_cons (pv 1) (pa_cons (pv 2) pa_nil))))) (fun a oe cls d pn hz hd tk hot => pss_one (L2H.ps_raiseHN hot tk (pmk5_x1 XI R.ty GH (L2H.roomH_mark (hr.mono (by decide)) _) hot bI (by rfl) R.gm (pa_cons (pe_op op_add (pe_callB (show CallR _ (.builtin "len") (rLnS K) from call_len_seq) (by rfl) Y.len PySem.boot_len (pa_cons (pv 0) pa_nil)) pe_int) pa_nil)))))))), ?_⟩
    obtain ⟨pw, nm, le⟩ := leadH_ok (ps := ls.map fun l => Txt.split l " ") (hs := []) List.Pairwise.nil (fun _ z => nomatch z)
    rw [List.length_map, List.length_nil, Nat.zero_add] at le
    have nd := asc_nd pw
    refine ⟨_, rfl, a, ls, rfl, ha, by omega, fun l hl => by have := (ll l hl).1; omega, fun H1 L s1 nL hL => ?_⟩
    generalize eh : leadH [] (ls.map fun l => Txt.split l " ") = hs at pw nm le nd hL
    have lf : linesF ls = if (fl hs ls).2 = false then .inr (hs.length + (fl hs ls).1.length + 1) else if hs = [] then .inr (ls.length + 1) else match connF hs (fl hs ls).1 with
      | some _ => .inr (ls.length + 1)
      | none => .inl (hs, (fl hs ls).1) := by
      unfold linesF
      dsimp only
      rw [eh]
    refine ⟨_, rfl, _, rfl, a, L, ls, hs, rfl, s1 _ _ ha, hL, l60, ll, le, nd, nm, fun h => ?_, fun h H2 L2 us s2 nL2 hL2 pr l60b nmk => ?_⟩
    · rw [if_pos h] at lf
      have z := (qE _ lf).same s1
      rw [show (((hs.length + (fl hs ls).1.length + 1 : Nat) : Int)) = (hs.length : Int) + ((fl hs ls).1.length : Int) + 1 by omega] at z
      exact z
    rw [if_neg (show ¬ (fl hs ls).2 = false by rw [h]; decide)] at lf
    have jn := fl_join h
    generalize (fl hs ls).1 = ks at lf jn pr l60b nmk
    have s02 := s1.trans s2
    have tf := treeF_lines nd nm jn
    refine ⟨_, rfl, _, rfl, ?_⟩
    intro x dx nx ndx nex
    refine ⟨x, dx, _, _, .list (hs.map PyData.str), .list (ks.map prD), H2, rfl, upd_same, (same_upd2 (same_upd ndx) nx), nx, .lst (s2 _ _ hL) (dns_tx _), .lst hL2 pr.dns, fun ds e => ?_, fun ds e => ?_, fun e he => ?_, fun ns' ls' he H' s' t => ⟨rfl, ?_⟩⟩
    · cases e
      refine ⟨by rw [List.length_map]; omega, fun d hd => ?_⟩
      obtain ⟨x, hx, rfl⟩ := List.mem_map.mp hd
      exact decide_eq_true (by have := (nm x hx).2.1; omega)
    · cases e
      refine ⟨by rw [List.length_map]; omega, fun d hd => ?_⟩
      obtain ⟨p, hp, rfl⟩ := List.mem_map.mp hd
      obtain ⟨n1, n2⟩ := nmk p hp
      have m1 := n1.2.1
      have m2 := n2.2.1
      exact sml_tw (p := [p.1, p.2]) (by show 2 ≤ 900; decide) fun z hz => by
        rcases List.mem_cons.mp hz with rfl | hz
        · omega
        · rw [List.mem_singleton.mp hz]
          omega
    · have er : linesF ls = .inr (ls.length + 1) := by
        rw [tf] at he
        rw [lf]
        by_cases c : hs = []
        · rw [if_pos c]
        · rw [if_neg c] at he ⊢
          cases z : connF hs ks with
          | some y => rfl
          | none =>
            rw [z] at he
            cases he
      have z := (qE _ er).same s02
      refine fun v H8 dx2 s8 _ _ => ⟨true, xm, fun _ a2 na2 => ⟨_, rfl, a, _, rfl, .inl (SqL.of ((s02.trans s8) _ _ ha)), _, _, rfl, rfl, _, rfl, fun d nd => ?_⟩, fun z => nomatch z⟩
      have z2 := (z.same s8) _ d (same_upd nd) upd_same
      rw [List.length_map]
      exact z2
    · have er : linesF ls = .inl (ns', ls') := by
        rw [tf] at he
        rw [lf]
        by_cases c : hs = []
        · rw [if_pos c] at he
          cases he
        · rw [if_neg c] at he ⊢
          cases z : connF hs ks with
          | some y =>
            rw [z] at he
            cases he
          | none =>
            rw [z] at he
            injection he with he
            rw [he]
      exact q _ _ er _ x (s02.trans s') (t.same (nw_same _ _))
/-- what a text tells -/
noncomputable def textF (x : Str) : (List Str × List (Str × Str)) ⊕ Nat :=
  let ps := Txt.split x "\n"
  match linesF ps.dropLast with
  | .inr n => .inr n
  | .inl t => if ps.getLast? = some ("" : Str) then .inl t else .inr ps.length
def spPT (K : PySem.W.Frag) (C CL : Addr) : Sp := fun vs H Q E => ∃ (v : V) (d : PyData), vs = [v] ∧ Dn K H v d ∧ ((∀ x, d ≠ .str x) → Ro E CL "line" (.int 0) H) ∧
  ∀ x, d = .str x → x.length ≤ 2000 ∧ (Txt.split x "\n").length ≤ 60 ∧ (∀ l ∈ Txt.split x "\n", OkL l) ∧
    (∀ n, textF x = .inr n → Ro E CL "line" (.int (n : Int)) H) ∧
    (∀ hs ks, textF x = .inl (hs, ks) → ∀ H' p, Same H H' → Tr C H' p (srt hs) (srtF ks) → Q (.ref p) H')
theorem ok_pt {f : Addr} {fd : FuncData} (F : Fun K "parse_tree" "parse_tree" s_parse_tree f fd) (Y : Bn mg) (G_split_text : Fk P w K mg base (L2.CX P w) 3 "split_text" ["text"] (spSX K CL)) (G_tree_of_lines : Fk P w K mg base (L2.CX P w) 9 "tree_of_lines" ["lines"] (spTL C CL))
    (G_check_no_rest : Fk P w K mg base (L2.CX P w) 3 "check_no_rest" ["lines", "rest"] (spNR CL)) : FnOk P w K mg base (L2.CX P w) 10 f fd ["text"] (spPT K C CL) := by
  refine F.okX sc_parse_tree (fun vs H Q E h => ?_) (fun cdv A outer s H vs Q E hr h => ?_)
  · obtain ⟨v, d, rfl, _⟩ := h
    rfl
  · obtain ⟨v, d, rfl, dn, q0, q1⟩ := h
    refine ⟨_, (pss_cons (ps_asg (pe_callF G_split_text (hr.mono (by decide)) (by rfl) (passes_call (E := E) (takes_of rfl rfl rfl rfl) (fun _ _ _ _ h => h)) (pa_cons (pv 0) pa_nil)) (pg_tup (by rfl) (pgs_cons (pg_name (i := 1) sc_parse_tree.nd rfl (Or.inl rfl)) (pgs_cons (pg_name (i := 2) sc_parse_tree.nd rfl (Or.inl rfl)) pgs_nil))))
 (pss_cons (ps_set (i := 3) sc_parse_tree.nd rfl (.inl rfl) (pe_callF G_tree_of_lines (hr.mono (by decide)) (by rfl) (passes_call (E := E) (takes_of rfl rfl rfl rfl) (fun _ _ _ _ h => h)) (pa_cons (pv 1) pa_nil)))
 (pss_cons (ps_expr (pe_callF G_check_no_rest (hr.mono (by decide)) (by rfl) (passes_call (E := E) (takes_of rfl rfl rfl rfl) (fun _ _ _ _ h => h)) (pa_cons (pv 1) (pa_cons (pv 2) pa_nil))))
 (pss_one (ps_ret (pv 3)))))), ?_⟩
    refine ⟨_, rfl, v, d, rfl, dn, q0, fun x ex => ?_⟩
    obtain ⟨l2, l60, ll, qE, q⟩ := q1 x ex
    refine ⟨by omega, fun H1 t l ps r s1 eps hl zt => ?_⟩
    have tf : textF x = match linesF ps with
      | .inr n => .inr n
      | .inl t => if r = "" then .inl t else .inr (ps.length + 1) := by
      unfold textF
      dsimp only
      rw [eps, List.dropLast_concat]
      cases linesF ps with
      | inr n => rfl
      | inl t =>
        dsimp only
        rw [List.getLast?_append, List.length_append]
        show (if some r = some ("" : Str) then Sum.inl t else Sum.inr (ps.length + 1)) = _
        by_cases c : r = ""
        · rw [if_pos c, if_pos (by rw [c])]
        · rw [if_neg c, if_neg fun z => c (by injection z)]
    refine ⟨t, _, rfl, zt.sq, rfl, _, _, rfl, _, _, rfl, rfl, ?_⟩
    rw [eps, List.length_append] at l60
    have l60 : ps.length + 1 ≤ 60 := l60
    refine ⟨_, rfl, l, ps, rfl, hl, by omega, fun z hz => ll z (by rw [eps]; exact List.mem_append_left _ hz), fun n hn => ?_, fun hs ks hk H2 p s2 t2 => ?_⟩
    · rw [hn] at tf
      exact (qE n tf).same s1
    rw [hk] at tf
    have tf : textF x = if r = "" then .inl (hs, ks) else .inr (ps.length + 1) := tf
    refine ⟨_, rfl, _, rfl, l, _, r, rfl, s2 _ _ hl, (by rw [List.length_map]; omega), fun er => ?_, fun er => ?_⟩
    · rw [if_pos er] at tf
      exact ⟨_, rfl, q _ _ tf _ p (s1.trans s2) t2⟩
    · rw [if_neg er] at tf
      rw [List.length_map]
      have z := (qE _ tf).same (s1.trans s2)
      exact z
end
end My

namespace My
open PySem PySem.Spec PyProof.Rows L2 Gy Xl Xs Xt
theorem at_inL {H : Hp} {a : Addr} {xs : List V} {d n : Int} (h : H a = some (.lst xs)) (l : (xs.length : Int) = n) (h0 : 0 ≤ d) (h1 : d < n) : ∃ v, atI xs d = some v ∧ v ∈ xs := at_in h0 (by rw [l]; exact h1)
end My

namespace My
open PySem PySem.Spec PyProof.Rows L2 Gy Xl Xs Xt Xo Xp
/-! ### a drawn tree -/
theorem erase_perm {α : Type} : ∀ {xs : List α} {k : Nat} {y : α}, xs[k]? = some y → (y :: xs.eraseIdx k).Perm xs
  | [], k, y, h => by simp at h
  | x :: xs, 0, y, h => by
    simp at h
    subst h
    exact List.Perm.refl _
  | x :: xs, k + 1, y, h => by
    simp only [List.getElem?_cons_succ] at h
    rw [List.eraseIdx_cons_succ]
    exact (List.Perm.swap x y _).trans (List.Perm.cons x (erase_perm h))
theorem seq_ix {k n : Nat} (h : k < n) : seqIndex? (k : Int) n = some k := by
  unfold seqIndex?
  dsimp only
  rw [if_neg (show ¬ (k : Int) < 0 by omega), if_pos (by rw [Bool.and_eq_true, decide_eq_true_eq, decide_eq_true_eq]; omega)]
  rfl
theorem Rc.not {ls : List (Str × Str)} {a b : Str} (h : ¬ Rc ls a b) : ∃ A : Str → Prop, A a ∧ (∀ p ∈ ls, A p.1 ↔ A p.2) ∧ ¬ A b := by
  unfold Rc at h
  obtain ⟨A, hA⟩ := Classical.not_forall.mp h
  obtain ⟨h1, hA⟩ := Classical.not_imp.mp hA
  obtain ⟨h2, h3⟩ := Classical.not_imp.mp hA
  exact ⟨A, h1, h2, h3⟩
theorem Tk.one {x : Str} (h : Nm x) : Tk [x] [] := by
  refine ⟨List.nodup_cons.mpr ⟨(fun z => nomatch z), List.nodup_nil⟩, fun y hy => by rw [List.mem_singleton.mp hy]; exact h, (fun z => nomatch z), (fun _ z => nomatch z), fun l1 p l2 e => ?_, fun y hy z hz => ?_⟩
  · have := congrArg List.length e
    rw [List.length_append, List.length_cons] at this
    simp at this
  · rw [List.mem_singleton.mp hy, List.mem_singleton.mp hz]
    exact Rc.refl
/-- a leaf more -/
theorem Tk.grow {ns : List Str} {ls : List (Str × Str)} {a b : Str} {p : Str × Str} (h : Tk ns ls) (ha : a ∈ ns) (hb : b ∉ ns) (nb : Nm b) (hp : p = (a, b) ∨ p = (b, a)) : Tk (ns ++ [b]) (ls ++ [p]) := by
  have ne : a ≠ b := fun e => hb (e ▸ ha)
  have enl : ∀ q ∈ ls, q.1 ≠ b ∧ q.2 ≠ b := fun q hq => ⟨fun e => hb (e ▸ (h.en q hq).1), fun e => hb (e ▸ (h.en q hq).2)⟩
  have adj : Rc (ls ++ [p]) a b := fun A hA cl => by
    have := cl p (List.mem_append_right _ List.mem_cons_self)
    rcases hp with rfl | rfl
    · exact this.mp hA
    · exact this.mpr hA
  refine ⟨nodup_snoc h.nd hb, fun x hx => ?_, fun z => ?_, fun q hq => ?_, fun l1 q l2 e => ?_, fun x hx y hy => ?_⟩
  · rcases List.mem_append.mp hx with hx | hx
    · exact h.nm x hx
    · rw [List.mem_singleton.mp hx]
      exact nb
  · have := congrArg List.length z
    rw [List.length_append] at this
    simp at this
  · rcases List.mem_append.mp hq with hq | hq
    · exact ⟨List.mem_append_left _ (h.en q hq).1, List.mem_append_left _ (h.en q hq).2⟩
    · rw [List.mem_singleton.mp hq]
      rcases hp with rfl | rfl
      · exact ⟨List.mem_append_left _ ha, List.mem_append_right _ List.mem_cons_self⟩
      · exact ⟨List.mem_append_right _ List.mem_cons_self, List.mem_append_left _ ha⟩
  · rcases List.eq_nil_or_concat l2 with rfl | ⟨m2, z, rfl⟩
    · obtain ⟨e1, e2⟩ := List.append_inj' (s₁ := ls) (t₁ := [p]) e (by
        have := congrArg List.length e
        simp at this ⊢)
      subst e1
      cases e2
      rw [List.append_nil]
      intro r
      rcases hp with rfl | rfl
      · exact r (fun x => x ≠ b) ne (fun q hq => ⟨fun _ => (enl q hq).2, fun _ => (enl q hq).1⟩) rfl
      · exact Rc.symm r (fun x => x ≠ b) ne (fun q hq => ⟨fun _ => (enl q hq).2, fun _ => (enl q hq).1⟩) rfl
    · rw [List.concat_eq_append, ← List.cons_append, ← List.append_assoc] at e
      obtain ⟨e1, e2⟩ := List.append_inj' (s₁ := ls) (t₁ := [p]) e (by simp)
      cases e2
      rw [List.concat_eq_append, ← List.append_assoc]
      intro r
      obtain ⟨A, a1, a2, a3⟩ := Rc.not (h.ac l1 q m2 e1)
      have hq : q ∈ ls := by rw [e1]; exact List.mem_append_right _ List.mem_cons_self
      have sub : ∀ u ∈ l1 ++ m2, u ∈ ls := fun u hu => by
        rw [e1]
        rcases List.mem_append.mp hu with hu | hu
        · exact List.mem_append_left _ hu
        · exact List.mem_append_right _ (List.mem_cons_of_mem _ hu)
      obtain ⟨n1, n2⟩ := enl q hq
      refine a3 ?_
      have z := r (fun x => (x = b ∧ A a) ∨ (x ≠ b ∧ A x)) (.inr ⟨n1, a1⟩) (fun u hu => ?_)
      · exact (z.resolve_left fun w => n2 w.1).2
      · rcases List.mem_append.mp hu with hu | hu
        · obtain ⟨m1, m2⟩ := enl u (sub u hu)
          have c := a2 u hu
          exact ⟨fun w => .inr ⟨m2, c.mp (w.resolve_left fun v => m1 v.1).2⟩, fun w => .inr ⟨m1, c.mpr (w.resolve_left fun v => m2 v.1).2⟩⟩
        · rw [List.mem_singleton.mp hu]
          rcases hp with rfl | rfl
          · exact ⟨fun w => .inl ⟨rfl, (w.resolve_left fun v => ne v.1).2⟩, fun w => .inr ⟨ne, (w.resolve_right fun v => v.1 rfl).2⟩⟩
          · exact ⟨fun w => .inr ⟨ne, (w.resolve_right fun v => v.1 rfl).2⟩, fun w => .inl ⟨rfl, (w.resolve_left fun v => ne v.1).2⟩⟩
  · have old : ∀ x ∈ ns, ∀ y ∈ ns, Rc (ls ++ [p]) x y := fun x hx y hy => (h.co x hx y hy).mono fun z hz => List.mem_append_left _ hz
    have toA : ∀ x ∈ ns ++ [b], Rc (ls ++ [p]) x a := fun x hx => by
      rcases List.mem_append.mp hx with hx | hx
      · exact old x hx a ha
      · rw [List.mem_singleton.mp hx]
        exact adj.symm
    exact (toA x hx).trans (toA y hy).symm
theorem prs_but {H H' : Hp} {r : Addr} (R : Rng H r) (b : But r H H') : ∀ {vs : List V} {ps : List (Str × Str)}, Prs H vs ps → Prs H' vs ps
  | _, _, .nil => .nil
  | _, _, .cons ⟨t, e, z⟩ p => .cons ⟨t, e, z.but R b⟩ (prs_but R b p)
section
variable {P : Program} {w : World} {K : PySem.W.Frag} {mg : Str → Option Value} {base : Heap} {H : Hp}
def spShuf : Sp := fun vs H Q _ => ∃ (r la : Addr) (xs : List V), vs = [.ref r, .ref la] ∧ Rng H r ∧ la ≠ r ∧ H la = some (.lst xs) ∧ xs.length ≤ 60 ∧
  ∀ (H' : Hp) (L : Addr) (ys : List V), But r H H' → Rng H' r → H L = none → H' L = some (.lst ys) → ys.Perm xs → Q (.ref L) H'
theorem ok_shuf {f : Addr} {fd : FuncData} (F : Fun K "_law_shuffled" "_law_shuffled" s_law_shuffled f fd) (Y : Bn mg) (G_law_draw : Fk P w K mg base CX0 1 "_law_draw" ["_law_rng_here", "_law_many"] spDraw) : FnOk P w K mg base CX0 2 f fd ["_law_rng_here", "_law_some"] spShuf := by
  refine F.ok sc_law_shuffled (fun vs H Q E h => ?_) (fun cdv A outer s H vs Q E hr h => ?_)
  · obtain ⟨r, la, xs, rfl, _⟩ := h
    rfl
  · obtain ⟨r, la, xs, rfl, R, nl, hl, l20, q⟩ := h
    refine ⟨_, (pss_cons (ps_set (i := 2) sc_law_shuffled.nd rfl (.inr rfl) (pe_callTy call_list_of (by rfl) Y.list (by decide +kernel) (pa_cons (pv 1) pa_nil)))
 (pss_one (ps_ret (pe_lc (own := [("_law_k", 3)]) (g := gName 3) (tt := tYes) rfl sc_law_shuffled.nd (pi_range1 (by rfl) Y.range (pa_cons (pe_callB call_len_seq (by rfl) Y.len PySem.boot_len (pa_cons (pv 1) pa_nil)) pa_nil)) (blkOk_by (N := ["_law_rng_here", "_law_some", "_law_rest", "_law_k"]) (sc := defScope s_law_shuffled) (by decide +kernel)) (fun _ _ _ _ _ => (pg_name (i := 3) sc_law_shuffled.nd rfl (Or.inl rfl))) (fun _ _ _ _ _ => pts_nil) (fun _ _ _ _ _ => (show PE _ _ (tBM K "list" rPopAt (tVar 2) _) from pe_bm PySem.F.plainAttrs_list PySem.F.slot_list_pop PySem.F.type_list_pop mt_popAt (pv 2) (pa_cons (pe_callF G_law_draw (hr.mono (by decide)) (by rfl) pass0 (pa_cons (pv 0) (pa_cons (pe_callB (show CallR _ (.builtin "len") (rLenS K) from call_len_seq) (by rfl) Y.len PySem.boot_len (pa_cons (pv 2) pa_nil)) pa_nil))) pa_nil))))))), ?_⟩
    refine ⟨_, rfl, la, _, rfl, .inl (SqL.of hl), fun l2 n2 => ?_⟩
    have ne2 := R.ne n2
    generalize hg : upd _ l2 _ = H2
    obtain ⟨s2, g2⟩ := upd_new hg n2
    clear hg
    have R2 := R.same s2
    refine ⟨_, rfl, la, _, rfl, .inl (SqL.of (s2 _ _ hl)), _, rfl, ?_, ?_, fun D nD => ?_⟩
    · omega
    · omega
    have neD := R2.ne nD
    have neD2 : D ≠ l2 := fun z => by rw [z, g2] at nD; cases nD
    have nD0 : H D = none := by
      cases z : H D with
      | none => rfl
      | some o => rw [s2 _ _ z] at nD; cases nD
    refine lc_it (walk_range (lo := 0) (n := ((xs.length : Int) - 0).toNat)) (fun i H' => But r H H' ∧ Rng H' r ∧ ∃ out rest : List V, H' D = some (.lst out) ∧ H' l2 = some (.lst rest) ∧ (out ++ rest).Perm xs ∧ out.length = i)
      ⟨(But.of s2).trans (But.of (same_upd nD)), R2.upd nD, [], xs, upd_same, (by rw [upd_ne neD2.symm]; exact g2), List.Perm.refl _, rfl⟩ (fun _ _ _ _ => trivial) ?_ ?_
    · rintro i y H3 H4 hi ⟨b3, R3, out, rest, hD, h2, pm, ol⟩ ⟨rfl, rfl⟩
      have pl := pm.length_eq
      rw [List.length_append] at pl
      have rl : 0 < rest.length := by omega
      refine ⟨rfl, ?_⟩
      dsimp only [tYes]
      refine iteT ?_
      refine ⟨_, rfl, .inl ⟨rfl, _, SqL.of h2⟩, _, rfl, _, rfl, l2, _, rfl, .inl (SqL.of h2), ?_⟩
      refine ⟨r, _, rfl, R3, by omega, by omega, fun H5 e b5 R5 e0 e1 => ?_⟩
      obtain ⟨k, rfl⟩ := Int.eq_ofNat_of_zero_le e0
      have kl : k < rest.length := by omega
      have hD5 := b5 _ _ neD hD
      have h25 := b5 _ _ ne2 h2
      refine ⟨l2, _, _, k, rest[k], rfl, rfl, h25, by omega, by omega, seq_ix kl, List.getElem?_eq_getElem kl, ?_⟩
      have hD6 : (upd H5 l2 (.lst (rest.eraseIdx k))) D = some (.lst out) := by
        rw [upd_ne neD2]
        exact hD5
      refine ⟨_, hD6, ?_, ?_, ?_, out ++ [rest[k]], rest.eraseIdx k, ?_, ?_, ?_, ?_⟩
      · exact small200 (by omega)
      · exact ((b3.trans b5).upd n2).upd nD0
      · exact (R5.upd2 ne2).upd2 neD
      · rw [upd_same]
      · rw [upd_ne neD2.symm, upd_same]
      · rw [List.append_assoc]
        exact (List.Perm.append_left out (erase_perm (List.getElem?_eq_getElem kl))).trans pm
      · rw [List.length_append, ol]
        rfl
    · rintro H3 ⟨b3, R3, out, rest, hD, h2, pm, ol⟩
      have pl := pm.length_eq
      rw [List.length_append] at pl
      have r0 : rest = [] := List.eq_nil_of_length_eq_zero (by omega)
      subst r0
      rw [List.append_nil] at pm
      exact q _ D out b3 R3 nD0 hD pm
def spLksD : Sp := fun vs H Q _ => ∃ (r la : Addr) (ns : List Str), vs = [.ref r, .ref la] ∧ Rng H r ∧ la ≠ r ∧ H la = some (.lst (ns.map V.str)) ∧ ns.length ≤ 20 ∧ ns ≠ [] ∧ (∀ x ∈ ns, Nm x) ∧ ns.Nodup ∧
  ∀ (H' : Hp) (L : Addr) (us : List V) (ls : List (Str × Str)), But r H H' → Rng H' r → H L = none → H' L = some (.lst us) → Prs H' us ls → Tk ns ls → ls.length + 1 = ns.length → Q (.ref L) H'
theorem ok_lksD {f : Addr} {fd : FuncData} (F : Fun K "_law_links" "_law_links" s_law_links f fd) (Y : Bn mg) (G_law_draw : Fk P w K mg base CX0 1 "_law_draw" ["_law_rng_here", "_law_many"] spDraw) (G_law_shuffled : Fk P w K mg base CX0 2 "_law_shuffled" ["_law_rng_here", "_law_some"] spShuf) :
    FnOk P w K mg base CX0 3 f fd ["_law_rng_here", "_law_names_here"] spLksD := by
  refine F.ok sc_law_links (fun vs H Q E h => ?_) (fun cdv A outer s H vs Q E hr h => ?_)
  · obtain ⟨r, la, ns, rfl, _⟩ := h
    rfl
  · obtain ⟨r, la, ns, rfl, R, nl, hl, l20, ne, nm, nd, q⟩ := h
    refine ⟨_, (pss_cons (ps_set (i := 2) sc_law_links.nd rfl (.inl rfl) (pe_lst pa_nil))
 (pss_cons (ps_for PassesOwn.never rfl (pi_range2 (by rfl) Y.range (pa_cons pe_int (pa_cons (pe_callB call_len_seq (by rfl) Y.len PySem.boot_len (pa_cons (pv 1) pa_nil)) pa_nil))) (pg_name (i := 3) sc_law_links.nd rfl (Or.inl rfl))
 (pss_cons (ps_set (i := 4) sc_law_links.nd rfl (.inl rfl) (pe_ix ix_list (pv 1) (pe_ix ix_list (pe_lst (pa_cons (pe_callF G_law_draw (hr.mono (by decide)) (by rfl) pass0 (pa_cons (pv 0) (pa_cons (pv 3) pa_nil))) (pa_cons (pe_op op_sub (pv 3) pe_int) (pa_cons pe_int pa_nil)))) (pe_callF G_law_draw (hr.mono (by decide)) (by rfl) pass0 (pa_cons (pv 0) (pa_cons pe_int pa_nil))) (fun _ _ => rfl)) (fun _ _ => rfl)))
 (pss_one (ps_expr (pe_bm PySem.F.plainAttrs_list PySem.F.slot_list_append PySem.F.type_list_append mt_append (pv 2) (pa_cons (pe_ix ix_list (pe_lst (pa_cons (pe_tupZ (pa_cons (pv 4) (pa_cons (pe_ix ix_list (pv 1) (pv 3) (fun _ _ => rfl)) pa_nil))) (pa_cons (pe_tupZ (pa_cons (pe_ix ix_list (pv 1) (pv 3) (fun _ _ => rfl)) (pa_cons (pv 4) pa_nil))) pa_nil))) (pe_callF G_law_draw (hr.mono (by decide)) (by rfl) pass0 (pa_cons (pv 0) (pa_cons pe_int pa_nil))) (fun _ _ => rfl)) pa_nil))))))
 (pss_one (ps_ret (pe_callF G_law_shuffled (hr.mono (by decide)) (by rfl) pass0 (pa_cons (pv 0) (pa_cons (pv 2) pa_nil))))))), ?_⟩
    have n1 : 0 < ns.length := List.length_pos_iff.mpr ne
    refine ⟨Nat.zero_le _, fun L nL => ?_⟩
    have neL := R.ne nL
    refine ⟨_, rfl, la, _, rfl, .inl (SqL.of (same_upd nL _ _ hl)), 1, _, rfl, (by rw [List.length_map]; omega), ?_⟩
    rw [List.length_map]
    refine for_it (walk_range (lo := 1) (n := ((ns.length : Int) - 1).toNat)) (fun i σ H' => ∃ a3 a4, σ = [some (.ref r), some (.ref la), some (.ref L), a3, a4] ∧ But r H H' ∧ Rng H' r ∧ ∃ us ls, H' L = some (.lst us) ∧ Prs H' us ls ∧ Tk (ns.take (i + 1)) ls ∧ ls.length = i)
      ⟨none, none, rfl, But.of (same_upd nL), R.upd nL, [], [], upd_same, .nil, ?_, rfl⟩ (fun _ _ _ _ _ => trivial) ?_ ?_
    · cases ns with
      | nil => exact absurd rfl ne
      | cons x xs =>
        rw [List.take_succ_cons, List.take_zero]
        exact Tk.one (nm x List.mem_cons_self)
    · rintro i y σ H1 H2 hi ⟨a3, a4, rfl, b1, R1, us, ls, hL, pr, tk, ll⟩ ⟨rfl, rfl⟩
      have i20 : i + 1 < ns.length := by omega
      have hl1 := b1 _ _ nl hl
      refine ⟨_, rfl, _, rfl, _, rfl, r, 1 + (i : Int), rfl, R1, by omega, by omega, fun H3 d b3 R3 d0 d1 => ?_⟩
      refine ⟨_, rfl, _, _, rfl, rfl, (by show 3 ≤ sizeLine; decide), fun l nl3 => ?_⟩
      generalize hg : upd H3 l _ = H4
      obtain ⟨s4, g4⟩ := upd_new hg nl3
      clear hg
      have R4 := R3.same s4
      have nlr := R3.ne nl3
      refine ⟨_, rfl, r, 3, rfl, R4, by decide, by decide, fun H5 e b5 R5 e0 e1 => ?_⟩
      have g5 := b5 _ _ nlr g4
      obtain ⟨v, hv, mv⟩ := at_inL g5 rfl e0 e1
      have vj : ∃ j : Nat, v = .int (j : Int) ∧ j < i + 1 := by
        simp only [List.mem_cons, List.not_mem_nil, or_false] at mv
        rcases mv with rfl | rfl | rfl
        · obtain ⟨j, rfl⟩ := Int.eq_ofNat_of_zero_le d0
          exact ⟨j, rfl, by omega⟩
        · exact ⟨i, by rw [show (1 : Int) + (i : Int) - 1 = (i : Int) by omega], by omega⟩
        · exact ⟨0, rfl, by omega⟩
      obtain ⟨j, rfl, ji⟩ := vj
      have b15 : But r H H5 := ((b1.trans b3).trans (But.of s4)).trans b5
      have hl5 := b15 _ _ nl hl
      have j20 : j < ns.length := by omega
      have ej : (ns.map V.str)[j]? = some (.str ns[j]) := by rw [List.getElem?_map, List.getElem?_eq_getElem j20]; rfl
      have ek : (ns.map V.str)[i + 1]? = some (.str ns[i + 1]) := by rw [List.getElem?_map, List.getElem?_eq_getElem i20]; rfl
      have ik : (1 : Int) + (i : Int) = ((i + 1 : Nat) : Int) := by omega
      refine ⟨l, _, e, _, rfl, rfl, SqL.of g5, hv, ?_⟩
      refine ⟨la, _, (j : Int), .str ns[j], rfl, rfl, SqL.of hl5, atI_nat ej, ?_⟩
      have hL5 : H5 L = some (.lst us) := b5 _ _ neL (s4 _ _ (b3 _ _ neL hL))
      have pr5 : Prs H5 us ls := prs_but R4 b5 ((prs_but R1 b3 pr).same s4)
      refine ⟨_, rfl, .inl ⟨rfl, _, SqL.of hL5⟩, ?_⟩
      refine ⟨_, rfl, _, rfl, _, rfl, la, _, ((i + 1 : Nat) : Int), .str ns[i + 1], rfl, congrArg V.int ik, SqL.of hl5, atI_nat ek, (by show 2 ≤ sizeLine; decide), fun t1 o1 nt1 st1 z1 => ?_⟩
      have hl6 := st1 _ _ hl5
      refine ⟨_, rfl, _, rfl, la, _, ((i + 1 : Nat) : Int), .str ns[i + 1], rfl, congrArg V.int ik, SqL.of hl6, atI_nat ek, _, rfl, (by show 2 ≤ sizeLine; decide), fun t2 o2 nt2 st2 z2 => ?_⟩
      generalize upd _ t1 o1 = H6 at st1 z1 hl6 nt2 st2 z2 ⊢
      generalize upd _ t2 o2 = H7 at st2 z2 ⊢
      have s57 := st1.trans st2
      refine ⟨(by show 2 ≤ sizeLine; decide), fun l8 n8 => ?_⟩
      generalize hg : upd H7 l8 _ = H8
      obtain ⟨s8, g8⟩ := upd_new hg n8
      clear hg
      have s58 := s57.trans s8
      have R8 := R5.same s58
      have nl8 : l8 ≠ r := (R5.same s57).ne n8
      refine ⟨_, rfl, r, 2, rfl, R8, by decide, by decide, fun H9 u b9 R9 u0 u1 => ?_⟩
      have g9 := b9 _ _ nl8 g8
      obtain ⟨v9, hv9, mv9⟩ := at_inL g9 rfl u0 u1
      have hL9 : H9 L = some (.lst us) := b9 _ _ neL (s58 _ _ hL5)
      have pr9 : Prs H9 us ls := prs_but R8 b9 (pr5.same s58)
      have z1' : Tz H9 t1 [.str ns[j], .str ns[i + 1]] := ((z1.same st2).same s8).but R8 b9
      have z2' : Tz H9 t2 [.str ns[i + 1], .str ns[j]] := (z2.same s8).but R8 b9
      have b19 : But r H H9 := (b15.trans (But.of s58)).trans b9
      have le : us.length ≤ 20 := by rw [prs_len pr9]; omega
      have jm : ns[j] ∈ ns.take (i + 1) := by
        rw [List.mem_take_iff_getElem]
        exact ⟨j, by omega, rfl⟩
      have km : ns[i + 1] ∉ ns.take (i + 1) := fun z => by
        obtain ⟨m, hm, e⟩ := List.mem_take_iff_getElem.mp z
        exact (List.pairwise_iff_getElem.mp nd) m (i + 1) (by omega) i20 (by omega) e
      have tk' : ns.take (i + 1 + 1) = ns.take (i + 1) ++ [ns[i + 1]] := by
        rw [List.take_add_one, List.getElem?_eq_getElem i20]
        rfl
      have fin : ∀ (t : Addr) (p : Str × Str), Tz H9 t [.str p.1, .str p.2] → (p = (ns[j], ns[i + 1]) ∨ p = (ns[i + 1], ns[j])) → ∃ us' ls', (upd H9 L (.lst (us ++ [.ref t]))) L = some (.lst us') ∧ Prs (upd H9 L (.lst (us ++ [.ref t]))) us' ls' ∧ Tk (ns.take (i + 1 + 1)) ls' ∧ ls'.length = i + 1 := fun t p zt hp =>
        ⟨_, ls ++ [p], upd_same, prs_updL hL9 (prs_app pr9 (.cons ⟨t, rfl, zt⟩ .nil)), (by rw [tk']; exact tk.grow jm km (nm _ (List.getElem_mem i20)) hp), by rw [List.length_append, ll]; rfl⟩
      refine ⟨l8, _, u, v9, rfl, rfl, SqL.of g9, hv9, L, _, _, rfl, rfl, hL9, small200 (by omega), ?_⟩
      refine ⟨_, _, rfl, b19.upd nL, R9.upd2 neL, ?_⟩
      simp only [List.mem_cons, List.not_mem_nil, or_false] at mv9
      rcases mv9 with rfl | rfl
      · exact fin t1 (ns[j], ns[i + 1]) z1' (.inl rfl)
      · exact fin t2 (ns[i + 1], ns[j]) z2' (.inr rfl)
    · rintro σ H1 ⟨a3, a4, rfl, b1, R1, us, ls, hL, pr, tk, ll⟩
      have e1 : ((ns.length : Int) - 1).toNat + 1 = ns.length := by omega
      rw [e1, List.take_of_length_le (Nat.le_refl _)] at tk
      have ul := prs_len pr
      refine ⟨_, rfl, _, rfl, r, L, us, rfl, R1, neL, hL, by omega, fun H2 M ys b2 R2 nM hM pm => ?_⟩
      have all : ∀ v ∈ ys, Pr H2 v (prOf H2 v) := (prs_but R1 b2 pr).mem |> fun h v hv => h v (pm.mem_iff.mp hv)
      have pl : (ys.map (prOf H2)).Perm ls := by
        rw [(prs_but R1 b2 pr).map]
        exact pm.map _
      have nM0 : H M = none := by
        cases z : H M with
        | none => rfl
        | some o =>
          by_cases c : M = r
          · obtain ⟨x, y, e, _⟩ := R1
            rw [← c, nM] at e
            cases e
          · rw [b1 _ _ c z] at nM
            cases nM
      exact q _ M ys _ (b1.trans b2) R2 nM0 hM (Prs.of all) (tk.perm (List.Perm.refl _) pl) (by rw [pl.length_eq]; omega)
end
end My

namespace My
open PySem PySem.Spec PyProof.Rows L2 Gy Xl Xs Xt Xo Xp
/-! ### links in order -/
def norm (p : Str × Str) : Str × Str := if p.2.cps.toList < p.1.cps.toList then (p.2, p.1) else p
theorem srt_two (x y : Str) : srt [x, y] = [(norm (x, y)).1, (norm (x, y)).2] := by
  show ins x [y] = _
  unfold ins norm
  dsimp only
  by_cases c : y.cps.toList < x.cps.toList
  · rw [if_pos c, if_pos c]
    rfl
  · rw [if_neg c, if_neg c]
theorem norm_or (p : Str × Str) : norm p = p ∨ norm p = (p.2, p.1) := by
  unfold norm
  split
  · exact .inr rfl
  · exact .inl rfl
theorem Tk.tail {q : Str × Str} {r : List (Str × Str)} (h : ∀ l1 p l2, q :: r = l1 ++ p :: l2 → ¬ Rc (l1 ++ l2) p.1 p.2) : ∀ l1 p l2, r = l1 ++ p :: l2 → ¬ Rc (l1 ++ l2) p.1 p.2 := fun l1 p l2 e z =>
  h (q :: l1) p l2 (by rw [e]; rfl) (z.mono fun u hu => List.mem_cons_of_mem _ hu)
theorem norm_nd : ∀ {ls : List (Str × Str)}, (∀ l1 p l2, ls = l1 ++ p :: l2 → ¬ Rc (l1 ++ l2) p.1 p.2) → (ls.map norm).Nodup
  | [], _ => List.nodup_nil
  | q :: r, h => by
    rw [List.map_cons, List.nodup_cons]
    refine ⟨fun z => ?_, norm_nd (Tk.tail h)⟩
    obtain ⟨p, hp, e⟩ := List.mem_map.mp z
    refine h [] q r rfl fun A hA cl => ?_
    have c := cl p hp
    rcases norm_or p with e1 | e1 <;> rcases norm_or q with e2 | e2
    · have : p = q := e1.symm.trans (e.trans e2)
      subst this
      exact c.mp hA
    · have : p = (q.2, q.1) := e1.symm.trans (e.trans e2)
      subst this
      exact c.mpr hA
    · have : (p.2, p.1) = q := e1.symm.trans (e.trans e2)
      subst this
      exact c.mpr hA
    · have : (p.2, p.1) = (q.2, q.1) := e1.symm.trans (e.trans e2)
      injection this with a b
      rw [← a]
      exact c.mp (b ▸ hA)
theorem adj_nd {x : Str} : ∀ {ls : List (Str × Str)}, (∀ l1 p l2, ls = l1 ++ p :: l2 → ¬ Rc (l1 ++ l2) p.1 p.2) → (adj ls x).Nodup
  | [], _ => List.nodup_nil
  | q :: r, h => by
    have ih := adj_nd (x := x) (Tk.tail h)
    have h0 := h [] q r rfl
    show ((if x = q.1 then [q.2] else if x = q.2 then [q.1] else []) ++ adj r x).Nodup
    split
    · rename_i c
      refine List.nodup_cons.mpr ⟨fun z => h0 (c ▸ Rc.of_adj z), ih⟩
    · split
      · rename_i c
        refine List.nodup_cons.mpr ⟨fun z => h0 (Rc.symm (c ▸ Rc.of_adj z)), ih⟩
      · exact ih
theorem lt_of_le {x y : Str} (h : leS x y) (n : x ≠ y) : ltS x y = true := by
  refine decide_eq_true (Classical.byContradiction fun c => n (leS_anti h (List.not_lt.mp c)))
theorem strict_of : ∀ {xs : List Str}, xs.Pairwise leS → xs.Nodup → xs.Pairwise fun x y => ltS x y = true
  | [], _, _ => List.Pairwise.nil
  | x :: xs, h, n => by
    obtain ⟨h1, h2⟩ := List.pairwise_cons.mp h
    obtain ⟨n1, n2⟩ := List.nodup_cons.mp n
    exact List.Pairwise.cons (fun y hy => lt_of_le (h1 y hy) fun e => n1 (e ▸ hy)) (strict_of h2 n2)
theorem lks_strict {f : Str → List Str} (hf : ∀ x, (f x).Pairwise fun y z => ltS y z = true) : ∀ {ns : List Str}, (ns.Pairwise fun x y => ltS x y = true) → (lks ns f).Pairwise fun p q => lexS p q = true
  | [], _ => List.Pairwise.nil
  | x :: ns, h => by
    obtain ⟨h1, h2⟩ := List.pairwise_cons.mp h
    show (lksOf f x ++ lks ns f).Pairwise _
    rw [List.pairwise_append]
    refine ⟨?_, lks_strict hf h2, fun p hp q hq => ?_⟩
    · unfold lksOf
      rw [List.pairwise_map]
      refine ((hf x).filter _).imp fun {a b} c => ?_
      unfold lexS
      rw [if_pos rfl]
      exact c
    · obtain ⟨y, _, rfl⟩ := List.mem_map.mp hp
      obtain ⟨u, hu, hq⟩ := List.mem_flatMap.mp hq
      obtain ⟨v, _, rfl⟩ := List.mem_map.mp hq
      have c := h1 u hu
      unfold lexS
      dsimp only
      rw [if_neg fun z => ?_]
      · exact c
      · rw [z, ltS_irr] at c
        cases c
theorem lks_mem {ns : List Str} {f : Str → List Str} {p : Str × Str} : p ∈ lks ns f ↔ p.1 ∈ ns ∧ p.2 ∈ f p.1 ∧ ltS p.1 p.2 = true := by
  unfold lks
  rw [List.mem_flatMap]
  constructor
  · rintro ⟨x, hx, hp⟩
    obtain ⟨y, hy, rfl⟩ := List.mem_map.mp hp
    rw [List.mem_filter] at hy
    exact ⟨hx, hy⟩
  · rintro ⟨h1, h2⟩
    exact ⟨p.1, h1, List.mem_map.mpr ⟨p.2, List.mem_filter.mpr h2, rfl⟩⟩
theorem lex_asym {p q : Str × Str} (h : lexS p q = true) : leQ p q := by
  unfold leQ
  have s := (lexS_swo (α := Str × Str) (fun x => x)).asym
  exact s p q h
theorem lex_irr (p : Str × Str) : lexS p p = false := by
  unfold lexS
  rw [if_pos rfl]
  exact ltS_irr _
section
variable {ns : List Str} {ls : List (Str × Str)}
theorem srtF_strict (h : Tk ns ls) (x : Str) : (srtF ls x).Pairwise fun y z => ltS y z = true := strict_of (srt_pw _) (srt_nd.mpr (adj_nd h.ac))
theorem lks_pw (h : Tk ns ls) : (lks (srt ns) (srtF ls)).Pairwise fun p q => lexS p q = true := lks_strict (srtF_strict h) (strict_of (srt_pw ns) (srt_nd.mpr h.nd))
theorem lks_perm (h : Tk ns ls) : (lks (srt ns) (srtF ls)).Perm (ls.map norm) := by
  have nd : (lks (srt ns) (srtF ls)).Nodup := (lks_pw h).imp fun {a b} c e => by
    rw [e, lex_irr] at c
    cases c
  refine (List.perm_ext_iff_of_nodup nd (norm_nd h.ac)).mpr fun p => ?_
  rw [lks_mem, srt_mem, List.mem_map]
  show _ ∧ p.2 ∈ srt (adj ls p.1) ∧ _ ↔ _
  rw [srt_mem, adj_mem]
  constructor
  · rintro ⟨_, ⟨q, hq, ⟨e1, e2⟩ | ⟨e1, e2⟩⟩, lt⟩
    · refine ⟨q, hq, ?_⟩
      unfold norm
      rw [if_neg fun z => ?_]
      · exact (Prod.ext e1 e2).symm
      · rw [← e1, ← e2] at z
        have := of_decide_eq_true lt
        exact List.lt_irrefl _ (List.lt_trans this z)
    · refine ⟨q, hq, ?_⟩
      unfold norm
      rw [if_pos ?_]
      · exact (Prod.ext e1 e2).symm
      · rw [← e1, ← e2]
        exact of_decide_eq_true lt
  · rintro ⟨q, hq, rfl⟩
    obtain ⟨m1, m2⟩ := h.en q hq
    have ne := h.ends hq
    unfold norm
    split
    · rename_i c
      exact ⟨m2, ⟨q, hq, .inr ⟨rfl, rfl⟩⟩, decide_eq_true c⟩
    · rename_i c
      exact ⟨m1, ⟨q, hq, .inl ⟨rfl, rfl⟩⟩, lt_of_le (List.not_lt.mp c) ne⟩
theorem lks_one (h : Tk ns ls) {qs : List (Str × Str)} (p : qs.Perm (ls.map norm)) (s : qs.Pairwise leQ) : qs = lks (srt ns) (srtF ls) :=
  sortQ_one (p.trans (lks_perm h).symm) s ((lks_pw h).imp fun {a b} c => lex_asym c)
theorem lks_len (h : Tk ns ls) : (lks (srt ns) (srtF ls)).length = ls.length := by
  rw [(lks_perm h).length_eq, List.length_map]
theorem srtF_in (h : Tk ns ls) : ∀ x ∈ srt ns, ∀ y ∈ srtF ls x, y ∈ srt ns := fun x _ y hy => by
  obtain ⟨p, hp, ⟨e1, e2⟩ | ⟨e1, e2⟩⟩ := adj_mem.mp (srt_mem.mp hy)
  · rw [e2]
    exact srt_mem.mpr (h.en p hp).2
  · rw [e2]
    exact srt_mem.mpr (h.en p hp).1
theorem Tk.nmS (h : Tk ns ls) : ∀ x ∈ srt ns, Nm x := fun x hx => h.nm x (srt_mem.mp hx)
theorem srtF_nm (h : Tk ns ls) {x : Str} (hx : x ∈ ns) : ∀ y ∈ srtF ls x, Nm y := fun y hy => h.nmS y (srtF_in h x (srt_mem.mpr hx) y hy)
end
end My

namespace My
open PySem PySem.Spec PyProof.Rows L2 Gy Xl Xs Xt Xo Xp
/-! ### so many links as hosts less one, and all are reached: a tree -/
theorem filt_one {α : Type} [DecidableEq α] : ∀ {ms : List α} (a : α), ms.Nodup → ms.length ≤ (ms.filter fun m => decide (m ≠ a)).length + 1
  | [], _, _ => Nat.zero_le _
  | m :: ms, a, nd => by
    obtain ⟨n1, n2⟩ := List.nodup_cons.mp nd
    by_cases e : m = a
    · have h : ms.filter (fun m => decide (m ≠ a)) = ms := List.filter_eq_self.mpr fun x hx => decide_eq_true fun z => n1 (by rw [e, ← z]; exact hx)
      rw [List.filter_cons, h, if_neg (by rw [decide_eq_false (fun z => z e)]; decide), List.length_cons]
      exact Nat.le_refl _
    · have h := filt_one a n2
      rw [List.filter_cons, if_pos (decide_eq_true e), List.length_cons, List.length_cons]
      omega
theorem filt_mem {α : Type} [DecidableEq α] : ∀ {ms : List α} {a : α}, ms.Nodup → a ∈ ms → (ms.filter fun m => decide (m ≠ a)).length + 1 = ms.length
  | m :: ms, a, nd, h => by
    obtain ⟨n1, n2⟩ := List.nodup_cons.mp nd
    by_cases e : m = a
    · have h : ms.filter (fun m => decide (m ≠ a)) = ms := List.filter_eq_self.mpr fun x hx => decide_eq_true fun z => n1 (by rw [e, ← z]; exact hx)
      rw [List.filter_cons, h, if_neg (by rw [decide_eq_false (fun z => z e)]; decide), List.length_cons]
    · have h := filt_mem n2 ((List.mem_cons.mp h).resolve_left fun z => e z.symm)
      rw [List.filter_cons, if_pos (decide_eq_true e), List.length_cons, List.length_cons]
      omega
theorem conn_lab (ns : List Str) (nd : ns.Nodup) : ∀ ls : List (Str × Str), ∃ (c : Str → Str) (ms : List Str), (∀ p ∈ ls, c p.1 = c p.2) ∧ ms.Nodup ∧ ns.length ≤ ms.length + ls.length ∧ ∀ m ∈ ms, ∃ x ∈ ns, c x = m
  | [] => ⟨fun x => x, ns, (fun _ z => nomatch z), nd, Nat.le_refl _, fun m hm => ⟨m, hm, rfl⟩⟩
  | p :: ls => by
    obtain ⟨c, ms, h1, h2, h3, h4⟩ := conn_lab ns nd ls
    refine ⟨fun x => if c x = c p.1 then c p.2 else c x, ms.filter fun m => decide (m ≠ c p.1), fun q hq => ?_, h2.sublist List.filter_sublist, ?_, fun m hm => ?_⟩
    · rcases List.mem_cons.mp hq with rfl | hq
      · dsimp only
        rw [if_pos rfl]
        split <;> rfl
      · dsimp only
        rw [h1 q hq]
    · have h := filt_one (c p.1) h2
      rw [List.length_cons]
      omega
    · obtain ⟨a, b⟩ := List.mem_filter.mp hm
      obtain ⟨x, hx, e⟩ := h4 m a
      refine ⟨x, hx, ?_⟩
      dsimp only
      rw [e, if_neg (of_decide_eq_true b)]
theorem conn_len {ns : List Str} {ls : List (Str × Str)} (nd : ns.Nodup) (co : ∀ x ∈ ns, ∀ y ∈ ns, Rc ls x y) : ns.length ≤ ls.length + 1 := by
  obtain ⟨c, ms, h1, h2, h3, h4⟩ := conn_lab ns nd ls
  have h : ms.length ≤ 1 := by
    match ms, h2, h4 with
    | [], _, _ => exact Nat.zero_le _
    | [_], _, _ => exact Nat.le_refl _
    | a :: b :: r, h2, h4 =>
      obtain ⟨x, hx, ex⟩ := h4 a List.mem_cons_self
      obtain ⟨y, hy, ey⟩ := h4 b (List.mem_cons_of_mem _ List.mem_cons_self)
      have e : c y = c x := co x hx y hy (fun z => c z = c x) rfl fun p hp => by rw [h1 p hp]
      refine absurd ?_ (List.nodup_cons.mp h2).1
      rw [← ex, ← e, ey]
      exact List.mem_cons_self
  omega
theorem Rc.via {ls ms : List (Str × Str)} {a b : Str} (h : ∀ p ∈ ls, Rc ms p.1 p.2) (r : Rc ls a b) : Rc ms a b := fun A hA cl => r A hA fun p hp => ⟨fun z => h p hp A z cl, fun z => (h p hp).symm A z cl⟩
theorem Rc.lnk {ls : List (Str × Str)} {p : Str × Str} (h : p ∈ ls) : Rc ls p.1 p.2 := fun A hA cl => (cl p h).mp hA
theorem Tk.of_len {ns : List Str} {ls : List (Str × Str)} (nd : ns.Nodup) (nm : ∀ x ∈ ns, Nm x) (ne : ns ≠ []) (en : ∀ p ∈ ls, p.1 ∈ ns ∧ p.2 ∈ ns) (co : ∀ x ∈ ns, ∀ y ∈ ns, Rc ls x y) (le : ls.length + 1 ≤ ns.length) : Tk ns ls := by
  refine ⟨nd, nm, ne, en, fun l1 p l2 e r => ?_, co⟩
  have h := conn_len nd fun x hx y hy => (co x hx y hy).via (ms := l1 ++ l2) fun q hq => by
    rw [e] at hq
    rcases List.mem_append.mp hq with hq | hq
    · exact Rc.lnk (List.mem_append_left _ hq)
    · rcases List.mem_cons.mp hq with rfl | hq
      · exact r
      · exact Rc.lnk (List.mem_append_right _ hq)
  have el := congrArg List.length e
  rw [List.length_append, List.length_cons] at el
  rw [List.length_append] at h
  omega
theorem Tk.len {ns : List Str} {ls : List (Str × Str)} (h : Tk ns ls) : ns.length ≤ ls.length + 1 := conn_len h.nd h.co
end My

namespace My
open PySem PySem.Spec PyProof.Rows L2 Gy Xl Xs Xt Xo Xp
/-! ### the text of a tree -/
theorem str_app_empty (x : Str) : Str.empty ++ x = x := TL.ext_tl (by rw [TL.tl_append]; rfl)
theorem str_assoc (x y z : Str) : x ++ y ++ z = x ++ (y ++ z) := TL.ext_tl (by simp only [TL.tl_append, List.append_assoc])
theorem sum_le {α : Type} {f : α → Nat} {m : Nat} : ∀ {l : List α}, (∀ x ∈ l, f x ≤ m) → (l.map f).sum ≤ l.length * m
  | [], _ => Nat.zero_le _
  | x :: l, h => by
    rw [List.map_cons, List.sum_cons, List.length_cons, Nat.add_mul, Nat.one_mul]
    have a := h x List.mem_cons_self
    have b := sum_le (l := l) fun y hy => h y (List.mem_cons_of_mem _ hy)
    omega
theorem joinLen {y : Str} {m n : Nat} {xs : List Str} (h : ∀ x ∈ xs, x.length ≤ m) (l : xs.length ≤ n) (hy : y.length = 1) : (Txt.join y xs).length ≤ n * (m + 1) := by
  rw [TL.join_eq]
  have z : ∀ ws : List Str, (∀ x ∈ ws, x.length ≤ m) → (Str.join y ws).length ≤ ws.length * (m + 1) := by
    intro ws
    induction ws with
    | nil => exact fun _ => Nat.zero_le _
    | cons w ws ih =>
      intro hw
      cases ws with
      | nil =>
        have := hw w List.mem_cons_self
        show w.length ≤ 1 * (m + 1)
        omega
      | cons v ws =>
        have a := hw w List.mem_cons_self
        have b := ih fun x hx => hw x (List.mem_cons_of_mem _ hx)
        show (w ++ y ++ Str.join y (v :: ws)).length ≤ _
        rw [len_app, len_app, hy, List.length_cons (a := w), Nat.add_mul, Nat.one_mul]
        omega
  exact Nat.le_trans (z xs h) (Nat.mul_le_mul_right _ l)
def hostL (x : Str) : Str := "host " ++ x
def linkL (p : Str × Str) : Str := "link " ++ p.1 ++ " " ++ p.2
def nlL (x : Str) : Str := x ++ "\n"
def linesT (ns : List Str) (ls : List (Str × Str)) : List Str := (srt ns).map hostL ++ (lks (srt ns) (srtF ls)).map linkL
def txT (ns : List Str) (ls : List (Str × Str)) : Str := Txt.join "" ((linesT ns ls).map nlL)
theorem tl_joinE : ∀ ys : List Str, TL.tl (Str.join "" ys) = ys.flatMap TL.tl
  | [] => rfl
  | [x] => by
    show TL.tl x = TL.tl x ++ []
    rw [List.append_nil]
  | x :: z :: r => by
    have ih := tl_joinE (z :: r)
    show TL.tl (x ++ "" ++ Str.join "" (z :: r)) = TL.tl x ++ (z :: r).flatMap TL.tl
    rw [TL.tl_append, TL.tl_append, ih]
    show TL.tl x ++ [] ++ _ = _
    rw [List.append_nil]
theorem tl_joinN : ∀ xs : List Str, TL.tl (Str.join "\n" (xs ++ [("" : Str)])) = xs.flatMap fun x => TL.tl x ++ [10]
  | [] => rfl
  | [x] => by
    show TL.tl (x ++ "\n" ++ "") = (TL.tl x ++ [10]) ++ []
    rw [TL.tl_append, TL.tl_append]
    rfl
  | x :: z :: r => by
    have ih := tl_joinN (z :: r)
    show TL.tl (x ++ "\n" ++ Str.join "\n" (z :: r ++ [("" : Str)])) = (TL.tl x ++ [10]) ++ (z :: r).flatMap fun x => TL.tl x ++ [10]
    rw [TL.tl_append, TL.tl_append, ih]
    rfl
theorem join_nl (xs : List Str) : Txt.join "" (xs.map nlL) = Txt.join "\n" (xs ++ [("" : Str)]) := by
  rw [TL.join_eq, TL.join_eq]
  refine TL.ext_tl ?_
  rw [tl_joinE, tl_joinN, List.flatMap_map]
  congr 1
  funext x
  show TL.tl (x ++ "\n") = _
  rw [TL.tl_append]
  rfl
theorem let_free : (10 ∉ LET.cps.toList) ∧ 32 ∉ LET.cps.toList := by decide +kernel
theorem nm_free {x : Str} (h : Nm x) : 10 ∉ TL.tl x ∧ 32 ∉ TL.tl x := ⟨fun z => let_free.1 (h.2.2 _ z), fun z => let_free.2 (h.2.2 _ z)⟩
theorem host_join (x : Str) : hostL x = Txt.join " " [("host" : Str), x] := by
  rw [TL.join_eq]
  show "host " ++ x = "host" ++ " " ++ x
  refine TL.ext_tl ?_
  rw [TL.tl_append, TL.tl_append, TL.tl_append, show TL.tl "host " = TL.tl "host" ++ TL.tl " " by decide +kernel]
theorem link_join (p : Str × Str) : linkL p = Txt.join " " [("link" : Str), p.1, p.2] := by
  rw [TL.join_eq]
  show "link " ++ p.1 ++ " " ++ p.2 = "link" ++ " " ++ (p.1 ++ " " ++ p.2)
  refine TL.ext_tl ?_
  simp only [TL.tl_append, show TL.tl "link " = TL.tl "link" ++ TL.tl " " by decide +kernel, List.append_assoc]
theorem split_sp {ps : List Str} (hne : ps ≠ []) (hp : ∀ p ∈ ps, 32 ∉ TL.tl p) : Txt.split (Txt.join " " ps) " " = ps :=
  TL.split_join (y := " ") (s := 32) (S := []) (by decide +kernel) (by decide +kernel) hne hp
theorem split_nl {ps : List Str} (hne : ps ≠ []) (hp : ∀ p ∈ ps, 10 ∉ TL.tl p) : Txt.split (Txt.join "\n" ps) "\n" = ps :=
  TL.split_join (y := "\n") (s := 10) (S := []) (by decide +kernel) (by decide +kernel) hne hp
theorem split_host {x : Str} (h : Nm x) : Txt.split (hostL x) " " = [("host" : Str), x] := by
  rw [host_join]
  refine split_sp (fun z => nomatch z) fun p hp => ?_
  simp only [List.mem_cons, List.not_mem_nil, or_false] at hp
  rcases hp with rfl | rfl
  · decide +kernel
  · exact (nm_free h).2
theorem split_link {p : Str × Str} (h1 : Nm p.1) (h2 : Nm p.2) : Txt.split (linkL p) " " = [("link" : Str), p.1, p.2] := by
  rw [link_join]
  refine split_sp (fun z => nomatch z) fun q hq => ?_
  simp only [List.mem_cons, List.not_mem_nil, or_false] at hq
  rcases hq with rfl | rfl | rfl
  · decide +kernel
  · exact (nm_free h1).2
  · exact (nm_free h2).2
theorem host_free {x : Str} (h : Nm x) : 10 ∉ TL.tl (hostL x) := by
  unfold hostL
  rw [TL.tl_append, List.mem_append]
  rintro (z | z)
  · exact absurd z (by decide +kernel)
  · exact (nm_free h).1 z
theorem link_free {p : Str × Str} (h1 : Nm p.1) (h2 : Nm p.2) : 10 ∉ TL.tl (linkL p) := by
  unfold linkL
  rw [TL.tl_append, TL.tl_append, TL.tl_append, List.mem_append, List.mem_append, List.mem_append]
  rintro (((z | z) | z) | z)
  · exact absurd z (by decide +kernel)
  · exact (nm_free h1).1 z
  · exact absurd z (by decide +kernel)
  · exact (nm_free h2).1 z
theorem linkL_inj {p q : Str × Str} (h1 : Nm p.1) (h2 : Nm p.2) (h3 : Nm q.1) (h4 : Nm q.2) (e : linkL p = linkL q) : p = q := by
  have z := split_link h1 h2
  rw [e, split_link h3 h4] at z
  injection z with z0 z
  injection z with z1 z
  injection z with z2 z
  exact Prod.ext z1.symm z2.symm
theorem map_linkL_inj : ∀ {ps qs : List (Str × Str)}, (∀ p ∈ ps, Nm p.1 ∧ Nm p.2) → (∀ q ∈ qs, Nm q.1 ∧ Nm q.2) → ps.map linkL = qs.map linkL → ps = qs
  | [], [], _, _, _ => rfl
  | [], q :: qs, _, _, e => by cases e
  | p :: ps, [], _, _, e => by cases e
  | p :: ps, q :: qs, h1, h2, e => by
    rw [List.map_cons, List.map_cons] at e
    injection e with e1 e2
    have a := h1 p List.mem_cons_self
    have b := h2 q List.mem_cons_self
    rw [linkL_inj a.1 a.2 b.1 b.2 e1, map_linkL_inj (fun x hx => h1 x (List.mem_cons_of_mem _ hx)) (fun x hx => h2 x (List.mem_cons_of_mem _ hx)) e2]
section
variable {ns : List Str} {ls ks : List (Str × Str)}
theorem lks_nm (h : Tk ns ls) : ∀ p ∈ lks (srt ns) (srtF ls), Nm p.1 ∧ Nm p.2 := fun p hp => by
  obtain ⟨h1, h2, _⟩ := lks_mem.mp hp
  exact ⟨h.nmS _ h1, h.nmS _ (srtF_in h _ h1 _ h2)⟩
theorem lines_len (h : Tk ns ls) : (linesT ns ls).length = ns.length + ls.length := by
  unfold linesT
  rw [List.length_append, List.length_map, List.length_map, srt_len, lks_len h]
theorem lines_free (h : Tk ns ls) : ∀ x ∈ linesT ns ls, 10 ∉ TL.tl x := fun x hx => by
  rcases List.mem_append.mp hx with hx | hx
  · obtain ⟨y, hy, rfl⟩ := List.mem_map.mp hx
    exact host_free (h.nmS y hy)
  · obtain ⟨p, hp, rfl⟩ := List.mem_map.mp hx
    exact link_free (lks_nm h p hp).1 (lks_nm h p hp).2
theorem lines_le (h : Tk ns ls) : ∀ x ∈ linesT ns ls, x.length ≤ 22 := fun x hx => by
  rcases List.mem_append.mp hx with hx | hx
  · obtain ⟨y, hy, rfl⟩ := List.mem_map.mp hx
    have := (h.nmS y hy).2.1
    unfold hostL
    rw [len_app]
    show 5 + _ ≤ _
    omega
  · obtain ⟨p, hp, rfl⟩ := List.mem_map.mp hx
    obtain ⟨n1, n2⟩ := lks_nm h p hp
    have := n1.2.1
    have := n2.2.1
    unfold linkL
    rw [len_app, len_app, len_app]
    show 5 + _ + 1 + _ ≤ _
    omega
theorem split_tx (h : Tk ns ls) : Txt.split (txT ns ls) "\n" = linesT ns ls ++ [("" : Str)] := by
  unfold txT
  rw [join_nl]
  refine split_nl (fun z => by simp at z) fun p hp => ?_
  rcases List.mem_append.mp hp with hp | hp
  · exact lines_free h p hp
  · rw [List.mem_singleton.mp hp]
    decide +kernel
theorem txT_le (h : Tk ns ls) (l1 : ns.length ≤ 60) (l2 : ls.length ≤ 60) : (txT ns ls).length ≤ 2904 := by
  unfold txT
  rw [join_nl]
  refine joinLen (m := 23) (n := 121) (fun x hx => ?_) ?_ rfl
  · rcases List.mem_append.mp hx with hx | hx
    · exact Nat.le_succ_of_le (lines_le h x hx)
    · rw [List.mem_singleton.mp hx]
      decide
  · rw [List.length_append, lines_len h]
    show _ + 1 ≤ _
    omega
theorem tx_srt : txT (srt ns) ls = txT ns ls := by
  unfold txT linesT
  rw [srt_srt]
end
end My

namespace My
open PySem PySem.Spec PyProof.Rows L2 Gy Xl Xs Xt Xo Xp
/-! ### a tree's text, written and read -/
def tJnd (l : List TE) : TE := fun σ H Q => tJs l Str.empty σ H fun out H1 => Q (.str out) H1
theorem pe_joinedN {X : Cx} {v1 v2 : Expr} {rest : List Expr} {ts : List TE} {pos : Pos} (h : PJ X (v1 :: v2 :: rest) ts) : PE X (.JoinedStr (v1 :: v2 :: rest) pos) (tJnd ts) := pe_joined h
section
variable {P : Program} {w : World} {K : PySem.W.Frag} {mg : Str → Option Value} {base : Heap} {H : Hp} {C CI CL : Addr}
def spTT (C : Addr) : Sp := fun vs H Q _ => ∃ (p : Addr) (ns : List Str) (ls : List (Str × Str)), vs = [.ref p] ∧ Tr C H p (srt ns) (srtF ls) ∧ Tk ns ls ∧ ns.length ≤ 60 ∧ ls.length ≤ 60 ∧ ∀ H', Same H H' → Q (.str (txT ns ls)) H'
theorem ok_tt {f : Addr} {fd : FuncData} (F : Fun K "tree_text" "tree_text" s_tree_text f fd) (T : Tc K mg C) (M_links : Fm P w K mg base CX0 1 C "links" ["self"] (spLinks C)) (M_hosts : Fm P w K mg base CX0 1 C "hosts" ["self"] (spHosts C)) : FnOk P w K mg base CX0 2 f fd ["tree"] (spTT C) := by
  obtain ⟨_, _, MM_links, MB_links, MF_links⟩ := M_links.ex
  obtain ⟨_, _, MM_hosts, MB_hosts, MF_hosts⟩ := M_hosts.ex
  refine F.ok sc_tree_text (fun vs H Q E h => ?_) (fun cdv A outer s H vs Q E hr h => ?_)
  · obtain ⟨p, ns, ls, rfl, _⟩ := h
    rfl
  · obtain ⟨p, ns, ls, rfl, t, tk, l12, k12, q⟩ := h
    obtain ⟨_, dx, _, hp, _⟩ := t.ex
    refine ⟨_, (pss_cons (ps_setLc (i := 1) (own := [("host", 3)]) (g := gName 3) (tt := tYes) rfl sc_tree_text.nd rfl rfl (sw_true rfl rfl rfl (by decide +kernel)) (pi_list (pe_meth0 (pv 0) T.cl MM_hosts MF_hosts (hr.mono (by decide)) MB_hosts .nil pass0)) (blkOk_by (N := ["tree", "hosts", "links", "host", "one", "other"]) (sc := defScope s_tree_text) (by decide +kernel)) (fun _ _ _ _ _ => (pg_name (i := 3) sc_tree_text.nd rfl (Or.inl rfl))) (fun _ _ _ _ _ => pts_nil) (fun _ _ _ _ _ => (pe_joinedN (.cons pe_str (.cons (pe_fmt (pv 3)) (.cons pe_str .nil))))))
 (pss_cons (ps_setLc (i := 2) (own := [("one", 4), ("other", 5)]) (g := gTup K 2 (gCons (gName 4) (gCons (gName 5) gNil))) (tt := tYes) rfl sc_tree_text.nd rfl rfl (sw_true rfl rfl rfl (by decide +kernel)) (pi_list (pe_meth0 (pv 0) T.cl MM_links MF_links (hr.mono (by decide)) MB_links .nil pass0)) (blkOk_by (N := ["tree", "hosts", "links", "host", "one", "other"]) (sc := defScope s_tree_text) (by decide +kernel)) (fun _ _ _ _ _ => (pg_tup (by rfl) (pgs_cons (pg_name (i := 4) sc_tree_text.nd rfl (Or.inl rfl)) (pgs_cons (pg_name (i := 5) sc_tree_text.nd rfl (Or.inl rfl)) pgs_nil)))) (fun _ _ _ _ _ => pts_nil) (fun _ _ _ _ _ => (pe_joinedN (.cons pe_str (.cons (pe_fmt (pv 4)) (.cons pe_str (.cons (pe_fmt (pv 5)) (.cons pe_str .nil))))))))
 (pss_one (ps_ret (pe_join pe_str (pe_op op_cat (pv 1) (pv 2))))))), ?_⟩
    refine ⟨_, rfl, p, dx, _, rfl, hp, fld_no (by decide +kernel), p, srt ns, srtF ls, rfl, t, fun H1 L s1 nL eL => ?_⟩
    refine ⟨L, rfl, ⟨_, SqL.of eL⟩, fun D nD => ?_⟩
    refine lc_it (walk_list (K := K) (a := L) (xs := (srt ns).map V.str)) (fun i H' => Same H1 H' ∧ H' D = some (.lst ((((srt ns).take i).map fun x => nlL (hostL x)).map V.str)))
      ⟨same_upd nD, upd_same⟩ (fun i H' _ h => SqL.of (h.1 _ _ eL)) ?_ ?_
    · rintro i y H2 H3 hi ⟨s2, hD⟩ ⟨rfl, hy⟩
      rw [List.getElem?_map] at hy
      obtain ⟨x, hx, rfl⟩ := Option.map_eq_some_iff.mp hy
      have lx := (tk.nmS x (List.mem_of_getElem? hx)).2.1
      have hi' : i < (srt ns).length := by
        have h : i < ((srt ns).map V.str).length := hi
        rw [List.length_map] at h
        exact h
      rw [srt_len] at hi'
      refine ⟨rfl, ?_⟩
      dsimp only [tYes]
      refine iteT ?_
      refine ⟨_, rfl, (by rw [len_app]; show 0 + 5 ≤ sizeLine; decide), _, rfl, .inl ⟨_, rfl, le200 (by omega), _, rfl, (by rw [len_app, len_app]; exact le200 (by show 0 + 5 + _ ≤ _; omega)), _, rfl, (by rw [len_app, len_app, len_app]; exact le200 (by show 0 + 5 + _ + 1 ≤ _; omega)), ?_⟩⟩
      refine ⟨_, hD, ?_, same_upd2 s2 nD, ?_⟩
      · rw [List.length_map, List.length_map, List.length_take]
        exact small200 (by omega)
      · rw [upd_same, take_last hx, List.map_append, List.map_append]
        have e : Str.empty ++ "host " ++ x ++ "\n" = nlL (hostL x) := by rw [str_app_empty]; rfl
        rw [e]
        rfl
    rintro H2 ⟨s2, hD⟩
    rw [List.length_map, List.take_of_length_le (Nat.le_refl _)] at hD
    have s02 := s1.trans s2
    have lL : (lks (srt ns) (srtF ls)).length ≤ 60 := by rw [lks_len tk]; exact k12
    refine ⟨_, rfl, p, dx, _, rfl, s02 _ _ hp, fld_no (by decide +kernel), p, srt ns, srtF ls, rfl, t.same s02, srtF_in tk, by omega, fun H3 L2 us s3 nL2 eL2 pr => ?_⟩
    refine ⟨L2, rfl, ⟨_, SqL.of eL2⟩, fun D2 nD2 => ?_⟩
    have ul := prs_len pr
    refine lc_it (walk_list (K := K) (a := L2) (xs := us)) (fun i H' => Same H3 H' ∧ H' D2 = some (.lst ((((lks (srt ns) (srtF ls)).take i).map fun x => nlL (linkL x)).map V.str)))
      ⟨same_upd nD2, upd_same⟩ (fun i H' _ h => SqL.of (h.1 _ _ eL2)) ?_ ?_
    · rintro i y H4 H5 hi ⟨s4, hD2⟩ ⟨rfl, hy⟩
      obtain ⟨e, te, he, rfl, tz⟩ := prs_get (pr.same s4) hy
      obtain ⟨n1, n2⟩ := lks_nm tk e (List.mem_of_getElem? he)
      have m1 := n1.2.1
      have m2 := n2.2.1
      refine ⟨te, _, rfl, tz.sq, rfl, _, _, rfl, _, _, rfl, rfl, rfl, ?_⟩
      dsimp only [tYes]
      refine iteT ?_
      refine ⟨_, rfl, (by rw [len_app]; show 0 + 5 ≤ sizeLine; decide), _, rfl, .inl ⟨_, rfl, le200 (by omega), _, rfl, (by rw [len_app, len_app]; exact le200 (by show 0 + 5 + _ ≤ _; omega)), _, rfl, (by rw [len_app, len_app, len_app]; exact le200 (by show 0 + 5 + _ + 1 ≤ _; omega)), _, rfl, .inl ⟨_, rfl, le200 (by omega), _, rfl, (by rw [len_app, len_app, len_app, len_app]; exact le200 (by show 0 + 5 + _ + 1 + _ ≤ _; omega)), _, rfl, (by rw [len_app, len_app, len_app, len_app, len_app]; exact le200 (by show 0 + 5 + _ + 1 + _ + 1 ≤ _; omega)), ?_⟩⟩⟩
      refine ⟨_, hD2, ?_, same_upd2 s4 nD2, ?_⟩
      · rw [List.length_map, List.length_map, List.length_take]
        exact small200 (by omega)
      · rw [upd_same, take_last he, List.map_append, List.map_append]
        have ee : Str.empty ++ "link " ++ e.1 ++ " " ++ e.2 ++ "\n" = nlL (linkL e) := by rw [str_app_empty]; rfl
        rw [ee]
        rfl
    rintro H4 ⟨s4, hD2⟩
    rw [ul, List.take_of_length_le (Nat.le_refl _)] at hD2
    have s24 := s3.trans s4
    have lS := srt_len ns
    refine ⟨⟨_, rfl⟩, _, rfl, _, rfl, D, D2, _, _, rfl, rfl, s24 _ _ hD, hD2, (by rw [List.length_map, List.length_map, List.length_map, List.length_map]; exact le200 (by omega)), fun L5 nL5 => ?_⟩
    generalize hg : upd H4 L5 _ = H5
    obtain ⟨s5, g5⟩ := upd_new hg nL5
    clear hg
    have el : (((srt ns).map fun x => nlL (hostL x)).map V.str) ++ (((lks (srt ns) (srtF ls)).map fun x => nlL (linkL x)).map V.str) = ((linesT ns ls).map nlL).map V.str := by
      unfold linesT
      rw [List.map_append, List.map_append, List.map_map, List.map_map, List.map_map, List.map_map, List.map_map, List.map_map]
      rfl
    rw [el] at g5
    refine ⟨_, L5, _, rfl, rfl, .inl (SqL.of g5), ?_, ?_⟩
    · have z : (((linesT ns ls).map nlL).map (·.length)).sum ≤ ((linesT ns ls).map nlL).length * 23 := sum_le fun x hx => by
        obtain ⟨y, hy, rfl⟩ := List.mem_map.mp hx
        have := lines_le tk y hy
        unfold nlL
        rw [len_app]
        show _ + 1 ≤ _
        omega
      rw [List.length_map, lines_len tk] at z
      rw [show ("" : Str).length = 0 from rfl]
      rw [Nat.mul_zero]
      exact le200 (by omega)
    · exact q _ ((s02.trans s24).trans s5)
end
end My

/-! list.remove of a list of texts from a list of such lists. -/
namespace Xt
open PySem PySem.Spec PyProof.Rows L2 Gy
/-- lists of texts stand at these places -/
inductive LL (H : Hp) : List Addr → List (List Str) → Prop
  | nil : LL H [] []
  | cons {a : Addr} {P : List Str} {as : List Addr} {Ps : List (List Str)} : H a = some (.lst (P.map V.str)) → LL H as Ps → LL H (a :: as) (P :: Ps)
theorem LL.len {H : Hp} {as : List Addr} {Ps : List (List Str)} (h : LL H as Ps) : as.length = Ps.length := by
  induction h with
  | nil => rfl
  | cons _ _ ih => rw [List.length_cons, List.length_cons, ih]
theorem LL.get {H : Hp} : ∀ {as : List Addr} {Ps : List (List Str)}, LL H as Ps → ∀ {k : Nat} {a : Addr}, as[k]? = some a → ∃ P, Ps[k]? = some P ∧ H a = some (.lst (P.map V.str))
  | _, _, .nil, k, a, h => by simp at h
  | _, _, .cons e _, 0, a, h => by
    simp at h
    subst h
    exact ⟨_, rfl, e⟩
  | _, _, .cons _ t, k + 1, a, h => by
    rw [List.getElem?_cons_succ] at h
    obtain ⟨P, h1, h2⟩ := t.get h
    exact ⟨P, by rw [List.getElem?_cons_succ]; exact h1, h2⟩
theorem LL.same {H H' : Hp} {as : List Addr} {Ps : List (List Str)} (h : LL H as Ps) (s : ∀ a ∈ as, ∀ o, H a = some o → H' a = some o) : LL H' as Ps := by
  induction h with
  | nil => exact .nil
  | cons e _ ih => exact .cons (s _ List.mem_cons_self _ e) (ih fun a ha => s a (List.mem_cons_of_mem _ ha))
theorem strs_get : ∀ {P : List Str} {us : List Value}, Vals (P.map V.str) us → ∀ {j : Nat} (h1 : j < us.length) (h2 : j < P.length), ∃ t, us[j] = .str P[j] t
  | [], us, r, j, _, h2 => absurd h2 (Nat.not_lt_zero j)
  | x :: P, _, .cons ⟨t, e⟩ r, 0, _, _ => ⟨t, e⟩
  | x :: P, _ :: us, .cons e r, j + 1, h1, h2 => strs_get r (j := j) (Nat.lt_of_succ_lt_succ h1) (Nat.lt_of_succ_lt_succ h2)
theorem eq_lists {X : Cx} {pins : List (Addr × Obj)} {σ : L2.St} {H : Hp} {s : Shared} {A : Around} {a b : Addr} {P R : List Str} (I : Inv X pins σ H s) (hu : A.units < cLine) (ha : H a = some (.lst (P.map V.str))) (hb : H b = some (.lst (R.map V.str))) : SeqAt.EqAt A s (.ref a) (.ref b) (decide (P = R)) := by
  by_cases e : a = b
  · subst e
    rw [ha] at hb
    injection hb with hb
    injection hb with hb
    have : P = R := (List.map_inj_right fun x y h => by injection h).mp hb
    rw [decide_eq_true this]
    exact .same _
  · obtain ⟨i1, r1, t1, _⟩ := I.list (SqL.of ha)
    obtain ⟨i2, r2, t2, _⟩ := I.list (SqL.of hb)
    have l1 := r1.length
    have l2 := r2.length
    rw [List.length_map] at l1 l2
    by_cases l : P.length = R.length
    · have := SeqAt.RcAt.lists (A := A) (e := fun j => P.getD j "" == R.getD j "") t1.isList t2.isList (by rw [List.size_toArray, List.size_toArray]; omega) hu fun j h1 h2 => by
        rw [List.size_toArray] at h1 h2
        obtain ⟨u1, e1⟩ := strs_get r1 h1 (by omega)
        obtain ⟨u2, e2⟩ := strs_get r2 h2 (by omega)
        rw [List.getElem_toArray, List.getElem_toArray, e1, e2, List.getD_eq_getElem?_getD, List.getD_eq_getElem?_getD, List.getElem?_eq_getElem (show j < P.length by omega), List.getElem?_eq_getElem (show j < R.length by omega)]
        exact SeqAt.EqAt.str_str _ _ _ _
      have ev : ((List.range i1.toArray.size).all fun j => P.getD j "" == R.getD j "") = decide (P = R) := by
        rw [Bool.eq_iff_iff, List.all_eq_true, decide_eq_true_eq]
        constructor
        · intro h
          refine List.ext_getElem l fun j h1 h2 => ?_
          have z := h j (List.mem_range.mpr (by rw [List.size_toArray]; omega))
          rw [beq_iff_eq, List.getD_eq_getElem?_getD, List.getD_eq_getElem?_getD, List.getElem?_eq_getElem h1, List.getElem?_eq_getElem h2] at z
          exact z
        · rintro rfl j _
          exact beq_self_eq_true _
      rw [ev] at this
      exact .of_refs e this
    · rw [decide_eq_false fun z => l (by rw [z])]
      exact .of_refs e (SeqAt.RcAt.lists_lengths t1.isList t2.isList (by rw [List.size_toArray, List.size_toArray, bne_iff_ne]; omega) hu)
def rRemL : V → List V → Hp → VK → Prop := fun x xs H Q => ∃ (l a : Addr) (as : List Addr) (Ps : List (List Str)) (P : List Str) (j : Nat), x = .ref l ∧ xs = [.ref a] ∧ H l = some (.lst (as.map V.ref)) ∧ LL H as Ps ∧ H a = some (.lst (P.map V.str)) ∧ Ps[j]? = some P ∧ (∀ m, m < j → Ps[m]? ≠ some P) ∧ Q .non (upd H l (.lst ((as.eraseIdx j).map V.ref)))
theorem refs_mem : ∀ {as : List Addr} {us : List Value}, Vals (as.map V.ref) us → us = as.map Value.ref
  | [], _, .nil => rfl
  | a :: as, _, .cons e r => by rw [refs_mem r, List.map_cons]; congr 1
/-- is this the list? (the value's place in as) -/
def eqL (as : List Addr) (Ps : List (List Str)) (P : List Str) (v : Value) : Bool := match v with
  | .ref a => match Ps[as.idxOf a]? with
    | some R => decide (R = P)
    | none => false
  | _ => false
theorem erase_ref : ∀ (l : List Addr) (j : Nat), (l.map V.ref).eraseIdx j = (l.eraseIdx j).map V.ref
  | [], j => by simp
  | a :: r, 0 => by simp
  | a :: r, j + 1 => by simp [erase_ref r j]
theorem mt_removeL {X : Cx} (hu : X.A.units + 64 < cLine) : MtM X "list.remove" rRemL := by
  intro pins s σ H x xs v us Q I rx rxs h
  obtain ⟨l, a, as, Ps, P, j, rfl, rfl, hH, ll, ha, hj, hno, q⟩ := h
  cases rx
  obtain ⟨u, rfl, ru⟩ := rxs.one
  cases ru
  obtain ⟨z, its, n, r, hl, e⟩ := I.lstM hH
  have ei := refs_mem r
  have lel := ll.len
  have hjn : j < Ps.length := (List.getElem?_eq_some_iff.mp hj).1
  have hjl : j < its.toArray.size := by rw [List.size_toArray, ei, List.length_map]; omega
  have val : ∀ (m : Nat) (b : Addr), as[m]? = some b → ∃ R, Ps[m]? = some R ∧ eqL as Ps P (.ref b) = decide (R = P) := fun m b hb => by
    obtain ⟨R, h1, h2⟩ := ll.get hb
    refine ⟨R, h1, ?_⟩
    have mb := List.mem_of_getElem? hb
    have hi : as[as.idxOf b]? = some b := by
      rw [List.getElem?_eq_getElem (List.idxOf_lt_length_of_mem mb)]
      exact congrArg some (List.getElem_idxOf _)
    obtain ⟨R2, h3, h4⟩ := ll.get hi
    rw [h2] at h4
    injection h4 with h4
    injection h4 with h4
    have : R = R2 := (List.map_inj_right fun x y h => by injection h).mp h4
    unfold eqL
    dsimp only
    rw [h3, this]
  refine call_meets PySem.F.slot_list_remove ⟨_, e, rfl⟩ PySem.F.entry_list_remove (PySem.F.args_list_remove_2 _ _)
    (SeqAt.list_removeAt l its.toArray n _ _ (.ref a) (eqL as Ps P) j hjl ?_ ?_ (by rw [List.size_toArray, ei, List.length_map]; rw [List.length_map] at z; omega)) ⟨e, fun y hy => ?_, ?_⟩
  · have h1 : as[j]? = some as[j] := List.getElem?_eq_getElem (by omega)
    obtain ⟨R, h2, h3⟩ := val j _ h1
    rw [hj] at h2
    injection h2 with h2
    have : its.toArray[j] = Value.ref as[j] := by
      simp only [ei, List.getElem_toArray, List.getElem_map]
    rw [this, h3, h2]
    exact decide_eq_true rfl
  · intro m hm hmj
    rw [List.size_toArray, ei, List.length_map] at hm
    have h1 : as[m]? = some as[m] := List.getElem?_eq_getElem hm
    obtain ⟨R, h2, h3⟩ := val m _ h1
    have : its.toArray[m] = Value.ref as[m] := by
      simp only [ei, List.getElem_toArray, List.getElem_map]
    rw [this, h3]
    exact decide_eq_false fun w => hno m hmj (by rw [h2, w])
  · have my : y ∈ its := by simpa using hy
    rw [ei] at my
    obtain ⟨b, hb, rfl⟩ := List.mem_map.mp my
    obtain ⟨m, hm⟩ := List.getElem?_of_mem hb
    obtain ⟨R, h2, h3⟩ := val m b hm
    obtain ⟨R2, h4, h5⟩ := ll.get hm
    rw [h2] at h4
    cases h4
    rw [h3]
    exact eq_lists I (by show X.A.units + _ < cLine; omega) h5 ha
  · have rr := r.eraseIdx j
    rw [erase_ref] at rr
    refine ⟨.non, _, I.lset (its' := its.eraseIdx j) (t' := s.toks) hH e ?_ rr ?_, rfl, q⟩
    · show its.toArray.eraseIdxIfInBounds j = (its.eraseIdx j).toArray
      rw [List.eraseIdxIfInBounds_toArray]
    · rw [List.length_map] at z ⊢
      have : (as.eraseIdx j).length ≤ as.length := List.length_eraseIdx_le ..
      omega
end Xt

/-! t >= u of two pairs of texts. -/
namespace Xo
open PySem PySem.Spec PyProof.Rows L2 Gy Xt Xp
theorem ge_strR {A : Around} {s : Shared} (a b : Str) (t u : Tok) : Ob.RcOp .GtE A s (.str a t) (.str b u) (!decide (a.cps.toList < b.cps.toList)) := fun _ _ _ _ h => PySem.P.ge_str h
def rGeP (K : PySem.W.Frag) : R2 := fun x y H Q => ∃ (a b : Addr) (p q : Str × Str), x = .ref a ∧ y = .ref b ∧ Tz H a [.str p.1, .str p.2] ∧ Tz H b [.str q.1, .str q.2] ∧ Q (.bl (!lexS p q)) H
theorem op_geP {X : Cx} (hu : X.A.units < cLine) : OpR X (compareOp .GtE) (rGeP X.K) := by
  intro pins s σ H x y v u Q I rx ry h
  obtain ⟨a, b, p, q, rfl, rfl, ha, hb, k⟩ := h
  cases rx
  cases ry
  obtain ⟨its, r1, p1, _⟩ := I.tuple (ha.sq (K := X.K))
  obtain ⟨its2, r2, p2, _⟩ := I.tuple (hb.sq (K := X.K))
  cases r1 with
  | cons e1 r1 =>
  cases r1 with
  | cons e2 r1 =>
  cases r1
  cases r2 with
  | cons f1 r2 =>
  cases r2 with
  | cons f2 r2 =>
  cases r2
  obtain ⟨t1, rfl⟩ := e1
  obtain ⟨t2, rfl⟩ := e2
  obtain ⟨u1, rfl⟩ := f1
  obtain ⟨u2, rfl⟩ := f2
  have R := Ob.RcOp.tuples_ge (A := X.A) (s := s) (e := fun j => [p.1, p.2].getD j "" == [q.1, q.2].getD j "") (r := fun j => !decide (([p.1, p.2].getD j "").cps.toList < ([q.1, q.2].getD j "").cps.toList)) p1 p2 hu (fun j h1 h2 => by
    match j, h1 with
    | 0, _ => exact SeqAt.EqAt.str_str _ _ _ _
    | 1, _ => exact SeqAt.EqAt.str_str _ _ _ _) (fun j h1 h2 _ => by
    match j, h1 with
    | 0, _ => exact ge_strR _ _ _ _
    | 1, _ => exact ge_strR _ _ _ _)
  refine R _ _ _ _ ⟨.bl _, H, I, rfl, ?_⟩
  have e : Ob.lexAt (fun j => [p.1, p.2].getD j "" == [q.1, q.2].getD j "") (fun j => !decide (([p.1, p.2].getD j "").cps.toList < ([q.1, q.2].getD j "").cps.toList)) (decide ((2 : Nat) ≥ 2)) 0 2 = !lexS p q := by
    show (if (p.1 == q.1) = true then (if (p.2 == q.2) = true then decide ((2 : Nat) ≥ 2) else !ltS p.2 q.2) else !ltS p.1 q.1) = _
    unfold lexS
    by_cases h1 : p.1 = q.1
    · rw [if_pos (beq_iff_eq.mpr h1), if_pos h1]
      by_cases h2 : p.2 = q.2
      · rw [if_pos (beq_iff_eq.mpr h2), h2, ltS_irr]
        rfl
      · rw [if_neg (fun z => h2 (beq_iff_eq.mp z))]
    · rw [if_neg (fun z => h1 (beq_iff_eq.mp z)), if_neg h1]
  rw [← e] at k
  exact k
end Xo

namespace Xt
open PySem PySem.Spec PyProof.Rows L2 Gy
/-- l != []: a list and one without items -/
def rNmL (K : PySem.W.Frag) : R2 := fun x y H Q => ∃ a b xs, x = .ref a ∧ y = .ref b ∧ SqL K H a xs ∧ SqL K H b [] ∧ Q (.bl (!xs.isEmpty)) H
theorem op_neEmL {X : Cx} (hu : X.A.units < cLine) : OpR X (compareOp .NotEq) (rNmL X.K) := by
  intro pins s σ H x y v u Q I rx ry h
  obtain ⟨a, b, xs, rfl, rfl, ha, hb, q⟩ := h
  cases rx
  cases ry
  obtain ⟨i1, r1, t1, _⟩ := I.list ha
  obtain ⟨i2, r2, t2, _⟩ := I.list hb
  cases r2
  cases xs with
  | nil =>
    cases r1
    exact SeqAt.RcNeAt.lists (e := fun _ => true) t1.isList t2.isList rfl hu (fun j h1 h2 => absurd h2 (Nat.not_lt_zero j)) _ _ _ _ ⟨.bl false, H, I, rfl, q⟩
  | cons y ys =>
    cases r1 with
    | cons h t =>
      exact SeqAt.RcNeAt.lists_lengths t1.isList t2.isList (by simp) hu _ _ _ _ ⟨.bl true, H, I, rfl, q⟩
end Xt

namespace My
open PySem PySem.Spec PyProof.Rows L2 Gy Xl Xs Xt Xo Xp
/-! ### a text read line by line -/
noncomputable def stepF (ns : List Str) (ks : List (Str × Str)) (ps : List Str) : Option (List Str × List (Str × Str)) :=
  match (if ks = [] then nextH ns ps else none) with
  | some x => some (ns ++ [x], ks)
  | none => match nextL ns ks ps with
    | some p => some (ns, ks ++ [p])
    | none => none
noncomputable def readF : List Str → List (Str × Str) → List (List Str) → List Str × List (Str × Str) × Bool
  | ns, ks, [] => (ns, ks, true)
  | ns, ks, ps :: r => match stepF ns ks ps with
    | some s => readF s.1 s.2 r
    | none => (ns, ks, false)
theorem readF_links : ∀ (r : List (List Str)) {ns : List Str} {ks : List (Str × Str)}, ks ≠ [] → readF ns ks r = (ns, follL ns ks r)
  | [], ns, ks, _ => rfl
  | ps :: r, ns, ks, h => by
    unfold readF stepF follL
    rw [if_neg h]
    cases e : nextL ns ks ps with
    | none => rfl
    | some p => exact readF_links r (by simp)
theorem readF_hosts : ∀ (r : List (List Str)) {ns : List Str}, readF ns [] r = (leadH ns r, follL (leadH ns r) [] (r.drop ((leadH ns r).length - ns.length))) ∧ ns.length ≤ (leadH ns r).length
  | [], ns => by
    refine ⟨?_, Nat.le_refl _⟩
    show (ns, [], true) = (ns, follL ns [] (List.drop _ []))
    rw [List.drop_nil]
    rfl
  | ps :: r, ns => by
    unfold readF stepF leadH
    rw [if_pos rfl]
    cases e : nextH ns ps with
    | some x =>
      dsimp only
      obtain ⟨h1, h2⟩ := readF_hosts r (ns := ns ++ [x])
      rw [List.length_append] at h1 h2
      have h2 : ns.length + 1 ≤ (leadH (ns ++ [x]) r).length := h2
      refine ⟨?_, by omega⟩
      rw [h1, show (leadH (ns ++ [x]) r).length - ns.length = ((leadH (ns ++ [x]) r).length - (ns.length + 1)) + 1 by omega]
      rfl
    | none =>
      dsimp only
      refine ⟨?_, Nat.le_refl _⟩
      rw [Nat.sub_self, List.drop_zero]
      unfold follL
      cases e2 : nextL ns [] ps with
      | none => rfl
      | some p => exact readF_links r (by simp)
theorem readF_fl (ls : List Str) : readF [] [] (ls.map fun l => Txt.split l " ") = (leadH [] (ls.map fun l => Txt.split l " "), fl (leadH [] (ls.map fun l => Txt.split l " ")) ls) := by
  rw [(readF_hosts _).1, List.length_nil, Nat.sub_zero]
  unfold fl
  rw [List.map_drop]
/-! ### parts that links join -/
structure Pt (hs : List Str) (ks : List (Str × Str)) (Ps : List (List Str)) : Prop where
  nd : Ps.flatten.Nodup
  mem : ∀ x, x ∈ Ps.flatten ↔ x ∈ hs
  ne : ∀ P ∈ Ps, P ≠ []
  rc : ∀ P ∈ Ps, ∀ x ∈ P, ∀ y ∈ hs, (y ∈ P ↔ Rc ks x y)
  len : Ps.length + ks.length = hs.length
  en : ∀ p ∈ ks, p.1 ∈ hs ∧ p.2 ∈ hs
theorem Pt.nil : Pt [] [] [] := ⟨List.nodup_nil, fun x => Iff.rfl, (fun _ z => nomatch z), (fun _ z => nomatch z), rfl, (fun _ z => nomatch z)⟩
theorem rc_nil {a b : Str} (h : Rc [] a b) : b = a := h (fun x => x = a) rfl (fun _ z => nomatch z)
theorem Pt.host {hs : List Str} {Ps : List (List Str)} {x : Str} (h : Pt hs [] Ps) (n : x ∉ hs) : Pt (hs ++ [x]) [] (Ps ++ [[x]]) := by
  have fl : (Ps ++ [[x]]).flatten = Ps.flatten ++ [x] := by rw [List.flatten_append]; rfl
  refine ⟨?_, fun y => ?_, fun P hP => ?_, fun P hP a ha y hy => ?_, ?_, (fun _ z => nomatch z)⟩
  · rw [fl]
    exact nodup_snoc h.nd fun z => n ((h.mem x).mp z)
  · rw [fl, List.mem_append, List.mem_append, h.mem y]
  · rcases List.mem_append.mp hP with m | m
    · exact h.ne P m
    · rw [List.mem_singleton.mp m]
      exact fun z => nomatch z
  · rcases List.mem_append.mp hP with m | m
    · have ah : a ∈ hs := (h.mem a).mp (List.mem_flatten.mpr ⟨P, m, ha⟩)
      constructor
      · intro hp
        exact (h.rc P m a ha y ((h.mem y).mp (List.mem_flatten.mpr ⟨P, m, hp⟩))).mp hp
      · intro r
        rw [rc_nil r]
        exact ha
    · rw [List.mem_singleton.mp m] at ha ⊢
      rw [List.mem_singleton.mp ha, List.mem_singleton]
      exact ⟨fun e => by rw [e]; exact Rc.refl, rc_nil⟩
  · rw [List.length_append, List.length_append]
    have := h.len
    show _ + 1 + _ = _ + 1
    omega
theorem rc_add {ks : List (Str × Str)} {p : Str × Str} {a b : Str} : Rc (ks ++ [p]) a b ↔ Rc ks a b ∨ (Rc ks a p.1 ∧ Rc ks p.2 b) ∨ (Rc ks a p.2 ∧ Rc ks p.1 b) := by
  constructor
  · intro r
    refine r (fun z => Rc ks a z ∨ (Rc ks a p.1 ∧ Rc ks p.2 z) ∨ (Rc ks a p.2 ∧ Rc ks p.1 z)) (.inl Rc.refl) fun q hq => ?_
    rcases List.mem_append.mp hq with m | m
    · have l : Rc ks q.1 q.2 := Rc.lnk m
      constructor
      · rintro (h | ⟨h, k⟩ | ⟨h, k⟩)
        · exact .inl (h.trans l)
        · exact .inr (.inl ⟨h, k.trans l⟩)
        · exact .inr (.inr ⟨h, k.trans l⟩)
      · rintro (h | ⟨h, k⟩ | ⟨h, k⟩)
        · exact .inl (h.trans l.symm)
        · exact .inr (.inl ⟨h, k.trans l.symm⟩)
        · exact .inr (.inr ⟨h, k.trans l.symm⟩)
    · rw [List.mem_singleton.mp m]
      constructor
      · rintro (h | ⟨h, k⟩ | ⟨h, k⟩)
        · exact .inr (.inl ⟨h, Rc.refl⟩)
        · exact .inr (.inl ⟨h, Rc.refl⟩)
        · exact .inl h
      · rintro (h | ⟨h, k⟩ | ⟨h, k⟩)
        · exact .inr (.inr ⟨h, Rc.refl⟩)
        · exact .inl h
        · exact .inr (.inr ⟨h, Rc.refl⟩)
  · have sub : ∀ q ∈ ks, q ∈ ks ++ [p] := fun q h => List.mem_append_left _ h
    have l : Rc (ks ++ [p]) p.1 p.2 := Rc.lnk (List.mem_append_right _ List.mem_cons_self)
    rintro (h | ⟨h, k⟩ | ⟨h, k⟩)
    · exact h.mono sub
    · exact ((h.mono sub).trans l).trans (k.mono sub)
    · exact ((h.mono sub).trans l.symm).trans (k.mono sub)
/-- the part of a host -/
theorem Pt.at {hs : List Str} {ks : List (Str × Str)} {Ps : List (List Str)} {x : Str} (h : Pt hs ks Ps) (hx : x ∈ hs) : ∃ (i : Nat) (P : List Str), Ps[i]? = some P ∧ x ∈ P := by
  obtain ⟨P, hP, m⟩ := List.mem_flatten.mp ((h.mem x).mpr hx)
  obtain ⟨i, hi⟩ := List.getElem?_of_mem hP
  exact ⟨i, P, hi, m⟩
theorem flat_one : ∀ {Ps : List (List Str)} {i j : Nat} {P R : List Str} {x : Str}, Ps.flatten.Nodup → Ps[i]? = some P → Ps[j]? = some R → x ∈ P → x ∈ R → i = j
  | [], i, j, P, R, x, _, h, _, _, _ => by simp at h
  | Q :: Ps, 0, 0, _, _, _, _, _, _, _, _ => rfl
  | Q :: Ps, 0, j + 1, P, R, x, nd, h1, h2, m1, m2 => by
    rw [List.getElem?_cons_succ] at h2
    rw [List.getElem?_cons_zero] at h1
    cases h1
    rw [List.flatten_cons, List.nodup_append] at nd
    exact absurd rfl (nd.2.2 x m1 x (List.mem_flatten.mpr ⟨R, List.mem_of_getElem? h2, m2⟩))
  | Q :: Ps, i + 1, 0, P, R, x, nd, h1, h2, m1, m2 => by
    rw [List.getElem?_cons_succ] at h1
    rw [List.getElem?_cons_zero] at h2
    cases h2
    rw [List.flatten_cons, List.nodup_append] at nd
    exact absurd rfl (nd.2.2 x m2 x (List.mem_flatten.mpr ⟨P, List.mem_of_getElem? h1, m1⟩))
  | Q :: Ps, i + 1, j + 1, P, R, x, nd, h1, h2, m1, m2 => by
    rw [List.getElem?_cons_succ] at h1 h2
    rw [List.flatten_cons, List.nodup_append] at nd
    rw [flat_one nd.2.1 h1 h2 m1 m2]
/-- the parts behind a link from part i to part j -/
def mrg (Ps : List (List Str)) (i j : Nat) (P R : List Str) : List (List Str) := (Ps.set i (P ++ R)).eraseIdx j
theorem flat_perm {Ps Qs : List (List Str)} (h : Ps.Perm Qs) : Ps.flatten.Perm Qs.flatten := by
  induction h with
  | nil => exact List.Perm.refl _
  | cons x _ ih => exact List.Perm.append_left x ih
  | swap x y l =>
    show (y ++ (x ++ l.flatten)).Perm (x ++ (y ++ l.flatten))
    rw [← List.append_assoc, ← List.append_assoc]
    exact List.Perm.append_right _ List.perm_append_comm
  | trans _ _ h1 h2 => exact h1.trans h2
theorem Pt.link {hs : List Str} {ks : List (Str × Str)} {Ps : List (List Str)} {i j : Nat} {P R : List Str} {p : Str × Str} (h : Pt hs ks Ps) (hi : Ps[i]? = some P) (hj : Ps[j]? = some R) (n : i ≠ j) (m1 : p.1 ∈ P) (m2 : p.2 ∈ R) : Pt hs (ks ++ [p]) (mrg Ps i j P R) := by
  have il : i < Ps.length := (List.getElem?_eq_some_iff.mp hi).1
  have jl : j < Ps.length := (List.getElem?_eq_some_iff.mp hj).1
  have qi : (Ps.set i (P ++ R))[i]? = some (P ++ R) := by rw [List.getElem?_set_self il]
  have qj : (Ps.set i (P ++ R))[j]? = some R := by rw [List.getElem?_set_ne n]; exact hj
  have pm : (mrg Ps i j P R).flatten.Perm Ps.flatten := by
    have a1 := flat_perm (erase_perm hi)
    have a2 := flat_perm (erase_perm qi)
    have a3 := flat_perm (erase_perm qj)
    rw [List.eraseIdx_set_eq] at a2
    rw [List.flatten_cons] at a1 a2 a3
    have a4 : (R ++ (mrg Ps i j P R).flatten).Perm (R ++ Ps.flatten) := by
      refine a3.trans (a2.symm.trans ?_)
      refine List.Perm.trans ?_ (List.Perm.append_left R a1)
      rw [← List.append_assoc]
      exact List.Perm.append_right _ List.perm_append_comm
    exact (List.perm_append_left_iff R).mp a4
  have h1 : p.1 ∈ hs := (h.mem _).mp (List.mem_flatten.mpr ⟨P, List.mem_of_getElem? hi, m1⟩)
  have h2 : p.2 ∈ hs := (h.mem _).mp (List.mem_flatten.mpr ⟨R, List.mem_of_getElem? hj, m2⟩)
  have at_ : ∀ Q ∈ mrg Ps i j P R, Q = P ++ R ∨ ∃ k, k ≠ i ∧ k ≠ j ∧ Ps[k]? = some Q := fun Q hQ => by
    obtain ⟨k, kj, hk⟩ := List.mem_eraseIdx_iff_getElem?.mp hQ
    by_cases e : k = i
    · subst e
      rw [qi] at hk
      injection hk with hk
      exact .inl hk.symm
    · rw [List.getElem?_set_ne fun z => e z.symm] at hk
      exact .inr ⟨k, e, kj, hk⟩
  refine ⟨pm.nodup_iff.mpr h.nd, fun x => (pm.mem_iff).trans (h.mem x), fun Q hQ => ?_, fun Q hQ a ha y hy => ?_, ?_, fun q hq => ?_⟩
  · rcases at_ Q hQ with rfl | ⟨k, _, _, hk⟩
    · exact fun z => h.ne P (List.mem_of_getElem? hi) (List.append_eq_nil_iff.mp z).1
    · exact h.ne Q (List.mem_of_getElem? hk)
  · have rP : ∀ a ∈ P, ∀ y ∈ hs, (y ∈ P ↔ Rc ks a y) := h.rc P (List.mem_of_getElem? hi)
    have rR : ∀ a ∈ R, ∀ y ∈ hs, (y ∈ R ↔ Rc ks a y) := h.rc R (List.mem_of_getElem? hj)
    have d1 : p.2 ∉ P := fun z => n (flat_one h.nd hi hj z m2)
    have d2 : p.1 ∉ R := fun z => n (flat_one h.nd hi hj m1 z)
    rw [rc_add]
    rcases at_ Q hQ with rfl | ⟨k, ki, kj, hk⟩
    · rw [List.mem_append]
      rcases List.mem_append.mp ha with ha | ha
      · constructor
        · rintro (m | m)
          · exact .inl ((rP a ha y hy).mp m)
          · exact .inr (.inl ⟨(rP a ha _ h1).mp m1, (rR _ m2 y hy).mp m⟩)
        · rintro (r | ⟨_, r⟩ | ⟨r, _⟩)
          · exact .inl ((rP a ha y hy).mpr r)
          · exact .inr ((rR _ m2 y hy).mpr r)
          · exact absurd ((rP a ha _ h2).mpr r) d1
      · constructor
        · rintro (m | m)
          · exact .inr (.inr ⟨(rR a ha _ h2).mp m2, (rP _ m1 y hy).mp m⟩)
          · exact .inl ((rR a ha y hy).mp m)
        · rintro (r | ⟨r, _⟩ | ⟨_, r⟩)
          · exact .inr ((rR a ha y hy).mpr r)
          · exact absurd ((rR a ha _ h1).mpr r) d2
          · exact .inl ((rP _ m1 y hy).mpr r)
    · have rQ : ∀ a ∈ Q, ∀ y ∈ hs, (y ∈ Q ↔ Rc ks a y) := h.rc Q (List.mem_of_getElem? hk)
      have e1 : p.1 ∉ Q := fun z => ki (flat_one h.nd hk hi z m1)
      have e2 : p.2 ∉ Q := fun z => kj (flat_one h.nd hk hj z m2)
      rw [rQ a ha y hy]
      exact ⟨.inl, fun z => z.elim id fun z => z.elim (fun z => absurd ((rQ a ha _ h1).mpr z.1) e1) fun z => absurd ((rQ a ha _ h2).mpr z.1) e2⟩
  · have hl := h.len
    unfold mrg
    rw [List.length_eraseIdx, List.length_set, if_pos jl, List.length_append, List.length_singleton]
    omega
  · rcases List.mem_append.mp hq with m | m
    · exact h.en q m
    · rw [List.mem_singleton.mp m]
      exact ⟨h1, h2⟩
theorem Pt.rcB {hs : List Str} {ks : List (Str × Str)} {Ps : List (List Str)} {i j : Nat} {P R : List Str} {x y : Str} (h : Pt hs ks Ps) (hi : Ps[i]? = some P) (hj : Ps[j]? = some R) (m1 : x ∈ P) (m2 : y ∈ R) : rcB ks x y = decide (P = R) := by
  have hy : y ∈ hs := (h.mem _).mp (List.mem_flatten.mpr ⟨R, List.mem_of_getElem? hj, m2⟩)
  have r := h.rc P (List.mem_of_getElem? hi) x m1 y hy
  rw [Bool.eq_iff_iff, rcB_t, decide_eq_true_eq, ← r]
  constructor
  · intro m
    have := flat_one h.nd hi hj m m2
    subst this
    rw [hi] at hj
    injection hj
  · rintro rfl
    exact m2
theorem conn_all {hs : List Str} {ks : List (Str × Str)} (c : connF hs ks = none) : ∀ x ∈ hs, ∀ y ∈ hs, Rc ks x y := by
  unfold connF at c
  rw [List.find?_eq_none] at c
  have one : ∀ x ∈ hs, Rc ks ((srt hs).headD "") x := fun x hx => by
    have := c x (srt_mem.mpr hx)
    rw [Bool.not_eq_true, Bool.not_eq_false'] at this
    exact rcB_t.mp this
  exact fun x hx y hy => (one x hx).symm.trans (one y hy)
theorem conn_none {hs : List Str} {ks : List (Str × Str)} (ne : hs ≠ []) (c : ∀ x ∈ hs, ∀ y ∈ hs, Rc ks x y) : connF hs ks = none := by
  unfold connF
  rw [List.find?_eq_none]
  intro x hx
  have hm := headD_mem (xs := srt hs) (fun z => ne (List.Perm.nil_eq (z ▸ srt_perm hs)).symm)
  rw [rcB_t.mpr (c _ (srt_mem.mp hm) x (srt_mem.mp hx))]
  decide
theorem Pt.one {hs : List Str} {ks : List (Str × Str)} {Ps : List (List Str)} (h : Pt hs ks Ps) (nd : hs.Nodup) : Ps.length = 1 ↔ hs ≠ [] ∧ connF hs ks = none := by
  constructor
  · intro l
    obtain ⟨P, rfl⟩ : ∃ P, Ps = [P] := by
      match Ps, l with
      | [P], _ => exact ⟨P, rfl⟩
    have fe : [P].flatten = P := List.append_nil P
    have all : ∀ x ∈ hs, x ∈ P := fun x hx => by
      have := (h.mem x).mpr hx
      rw [fe] at this
      exact this
    have ne : hs ≠ [] := fun z => by
      have := h.len
      rw [z] at this
      simp at this
    exact ⟨ne, conn_none ne fun x hx y hy => (h.rc P List.mem_cons_self x (all x hx) y hy).mp (all y hy)⟩
  · rintro ⟨ne, c⟩
    have l := conn_len nd (conn_all c)
    have hl := h.len
    obtain ⟨x, t, e⟩ := List.exists_cons_of_ne_nil ne
    obtain ⟨i, P, hi, _⟩ := h.at (x := x) (by rw [e]; exact List.mem_cons_self)
    have := (List.getElem?_eq_some_iff.mp hi).1
    omega
end My

namespace My
open PySem PySem.Spec PyProof.Rows L2 Gy Xl Xs Xt Xo Xp
/-! ### the law's own checks -/
theorem let_mem (c : Nat) : decide (c ∈ LET.cps.toList) = (decide (97 ≤ c) && decide (c ≤ 122)) := by
  have e : LET.cps.toList = [97, 98, 99, 100, 101, 102, 103, 104, 105, 106, 107, 108, 109, 110, 111, 112, 113, 114, 115, 116, 117, 118, 119, 120, 121, 122] := by decide +kernel
  rw [e, ← Bool.decide_and]
  congr 1
  simp only [List.mem_cons, List.not_mem_nil, or_false, eq_iff_iff]
  omega
theorem lt1 (a b : Nat) : decide (([a] : List Nat) < [b]) = decide (a < b) := by
  congr 1
  simp [List.cons_lt_cons_iff]
theorem ge_sign (k : Nat) (x : Str) (hx : x.cps.toList = [k]) (c : Nat) : (!decide ((⟨#[c]⟩ : Str).cps.toList < x.cps.toList)) = decide (k ≤ c) := by
  rw [hx, show (⟨#[c]⟩ : Str).cps.toList = [c] from rfl, lt1, ← decide_not]
  congr 1
  simp only [Nat.not_lt]
theorem le_sign (k : Nat) (x : Str) (hx : x.cps.toList = [k]) (c : Nat) : (!decide (x.cps.toList < (⟨#[c]⟩ : Str).cps.toList)) = decide (c ≤ k) := by
  rw [hx, show (⟨#[c]⟩ : Str).cps.toList = [c] from rfl, lt1, ← decide_not]
  congr 1
  simp only [Nat.not_lt]
section
variable {P : Program} {w : World} {K : PySem.W.Frag} {mg : Str → Option Value} {base : Heap} {H : Hp}
def spIsName (K : PySem.W.Frag) : Sp := fun vs H Q _ => ∃ (v : V) (d : PyData), vs = [v] ∧ Dn K H v d ∧ sml d = true ∧ ∀ H', Same H H' → Q (.bl (isHost d)) H'
theorem ok_isName {f : Addr} {fd : FuncData} (F : Fun K "_law_is_name" "_law_is_name" s_law_is_name f fd) (Y : Bn mg) : FnOk P w K mg base CX0 1 f fd ["_law_value"] (spIsName K) := by
  refine F.ok sc_law_is_name (fun vs H Q E h => ?_) (fun cdv A outer s H vs Q E hr h => ?_)
  · obtain ⟨v, d, rfl, _⟩ := h
    rfl
  · obtain ⟨v, d, rfl, dn, sm, q⟩ := h
    refine ⟨_, (pss_cons (ps_if (PW.pt (pw_or (pt_not (pt_val (pe_callB call_isi (by rfl) Y.isinstance (by decide +kernel) (pa_cons (pv 0) (pa_cons (pe_bltn (v := .ty "str") (by rfl) Y.str (by decide +kernel) rfl) pa_nil))))) (pw_or1 (pt_not (pt_chain op_le op_le pe_int (pe_callB call_len_str (by rfl) Y.len PySem.boot_len (pa_cons (pv 0) pa_nil)) pe_int)))))
 (pss_one (ps_ret pe_bl))
 pss_nil)
 (pss_one (ps_ret (pe_callB (cr_all rfl) (by rfl) Y.all (by decide +kernel) (pa_cons (pe_lc (own := [("_law_sign", 1)]) (g := gName 1) (tt := tYes) rfl sc_law_is_name.nd (pi_str (pv 0)) (blkOk_by (N := ["_law_value", "_law_sign"]) (sc := defScope s_law_is_name) (by decide +kernel)) (fun _ _ _ _ _ => (pg_name (i := 1) sc_law_is_name.nd rfl (Or.inl rfl))) (fun _ _ _ _ _ => pts_nil) (fun _ _ _ _ _ => (pe_chain op_le_str op_le_str pe_str (pv 1) pe_str))) pa_nil))))), ?_⟩
    have kd := kd_dn dn sm
    rw [← host_dn dn] at q
    cases kd with
    | oth ty no nos =>
      refine ⟨v, rfl, v, _, _, _, false, rfl, .ty "str", ty, kit_ty no, _, rfl, ?_⟩
      refine iteT (iteT ?_)
      rw [textOf_oth nos] at q
      exact q _ (Same.refl _)
    | str x hx =>
      refine ⟨_, rfl, _, _, _, _, true, rfl, .ty "str", .base (.str x), kit_ty (by decide +kernel), _, rfl, ?_⟩
      refine iteF ?_
      have e1 : textOf (.str x) LET 8 = (decide ((1 : Int) ≤ (x.length : Int)) && decide ((x.length : Int) ≤ 8) && allIn LET x) := rfl
      refine ⟨_, rfl, _, rfl, hx, 1, _, rfl, rfl, _, rfl, ?_⟩
      refine ite2 (fun c1 => ?_) (fun c1 => ?_)
      · refine ⟨_, _, rfl, rfl, _, rfl, ?_⟩
        cases c2 : decide ((x.length : Int) ≤ 8) with
        | false =>
          refine iteT ?_
          rw [c2, Bool.and_false, Bool.false_and] at e1
          rw [e1] at q
          exact q _ (Same.refl _)
        | true =>
          refine iteF ?_
          rw [c1, c2, Bool.true_and, Bool.true_and] at e1
          refine ⟨_, rfl, x, rfl, fun D hD => ?_⟩
          refine lc_it (walk_str (z := x)) (fun i H' => Same H H' ∧ H' D = some (.lst (((x.cps.toList.take i).map fun c => decide (c ∈ (LET).cps.toList)).map V.bl)))
            ⟨same_upd hD, upd_same⟩ (fun _ _ _ _ => trivial) ?_ ?_
          · rintro i y H1 H2 hi ⟨sm, hL⟩ ⟨rfl, c, hc, rfl⟩
            have hc' : x.cps.toList[i]? = some c := by rw [Array.getElem?_toList]; exact hc
            have fin : ∀ b : Bool, decide (c ∈ LET.cps.toList) = b → ∃ zs, H2 D = some (.lst zs) ∧ zs.length < sizeLine ∧ Same H (upd H2 D (.lst (zs ++ [V.bl b]))) ∧ (upd H2 D (.lst (zs ++ [V.bl b]))) D = some (.lst (((x.cps.toList.take (i + 1)).map fun c => decide (c ∈ (LET).cps.toList)).map V.bl)) := fun b hb => by
              refine ⟨_, hL, ?_, same_upd2 sm hD, ?_⟩
              · rw [List.length_map, List.length_map, List.length_take]
                refine Nat.lt_of_le_of_lt (Nat.min_le_left _ _) (Nat.lt_of_lt_of_le hi ?_)
                exact hx
              · rw [upd_same, take_succ_all hc', List.map_append, ← hb]
                rfl
            refine ⟨rfl, ?_⟩
            dsimp only [tYes]
            refine iteT ?_
            have lm := let_mem c
            refine ⟨_, rfl, _, _, rfl, rfl, _, rfl, ite2 (fun c3 => ?_) (fun c3 => ?_)⟩
            · have c3' := (ge_sign 97 "a" (by decide +kernel) c).symm.trans c3
              rw [c3', Bool.true_and] at lm
              refine ⟨_, _, rfl, rfl, ?_⟩
              exact fin _ (lm.trans (le_sign 122 "z" (by decide +kernel) c).symm)
            · have c3' : decide (97 ≤ c) = false := (ge_sign 97 "a" (by decide +kernel) c).symm.trans (Bool.eq_false_iff.mpr c3)
              rw [c3', Bool.false_and] at lm
              exact fin false lm
          · rintro H1 ⟨sm, hL⟩
            refine ⟨D, _, rfl, SqL.of hL, ?_⟩
            have e2 : ((x.cps.toList.take x.cps.size).map fun c => decide (c ∈ (LET).cps.toList)).all id = allIn LET x := by
              rw [List.take_of_length_le (by rw [Array.length_toList]; exact Nat.le_refl _), List.all_map]
              rfl
            rw [e1] at q
            show Q (.bl (((x.cps.toList.take x.cps.size).map fun c => decide (c ∈ (LET).cps.toList)).all id)) H1
            rw [e2]
            exact q _ sm
      · refine ⟨_, rfl, ?_⟩
        refine iteT ?_
        have c1' : decide ((1 : Int) ≤ (x.length : Int)) = false := by
          cases z : decide ((1 : Int) ≤ (x.length : Int)) with
          | false => rfl
          | true => exact absurd z c1
        rw [c1', Bool.false_and, Bool.false_and] at e1
        rw [e1] at q
        exact q _ (Same.refl _)
end
end My

namespace My
open PySem PySem.Spec PyProof.Rows L2 Gy Xl Xs Xt Xo Xp
section
variable {P : Program} {w : World} {K : PySem.W.Frag} {mg : Str → Option Value} {base : Heap} {H : Hp}
def spPart : Sp := fun vs H Q _ => ∃ (L : Addr) (as : List Addr) (Ps : List (List Str)) (x : Str) (i : Nat) (a : Addr), vs = [.ref L, .str x] ∧ H L = some (.lst (as.map V.ref)) ∧ LL H as Ps ∧ as.length ≤ 60 ∧ as[i]? = some a ∧
  (∀ k R, Ps[k]? = some R → (x ∈ R ↔ k = i)) ∧ ∀ H', Same H H' → Q (.ref a) H'
theorem ok_part {f : Addr} {fd : FuncData} (F : Fun K "_law_part" "_law_part" s_law_part f fd) (Y : Bn mg) : FnOk P w K mg base CX0 1 f fd ["_law_parts", "_law_name"] spPart := by
  refine F.ok sc_law_part (fun vs H Q E h => ?_) (fun cdv A outer s H vs Q E hr h => ?_)
  · obtain ⟨L, as, Ps, x, i, a, rfl, _⟩ := h
    rfl
  · obtain ⟨L, as, Ps, x, i, a, rfl, hL, ll, l60, ia, one, q⟩ := h
    refine ⟨_, (pss_one (ps_ret (pe_ix ix_list (pe_lc (own := [("_law_part_here", 2)]) (g := gName 2) rfl sc_law_part.nd (pi_list (pv 0)) (blkOk_by (N := ["_law_parts", "_law_name", "_law_part_here"]) (sc := defScope s_law_part) (by decide +kernel)) (fun _ _ _ _ _ => (pg_name (i := 2) sc_law_part.nd rfl (Or.inl rfl))) (fun _ _ _ _ _ => (pts_one (pt_cmpR (show OpR _ (compareOp .In) (rIn K false) from op_in_seq) (pv 1) (pv 2) rfl))) (fun _ _ _ _ _ => (pv 2))) pe_int (fun _ _ => rfl)))), ?_⟩
    refine ⟨_, rfl, L, rfl, ⟨_, SqL.of hL⟩, fun D nD => ?_⟩
    refine lc_it (walk_list (K := K) (a := L) (xs := as.map V.ref)) (fun n H' => Same H H' ∧ H' D = some (.lst (if i < n then [V.ref a] else [])))
      ⟨same_upd nD, by rw [if_neg (Nat.not_lt_zero i)]; exact upd_same⟩ (fun n H' _ h => SqL.of (h.1 _ _ hL)) ?_ ?_
    · rintro n y H2 H3 hn ⟨s2, hD⟩ ⟨rfl, hy⟩
      rw [List.getElem?_map] at hy
      obtain ⟨b, hb, rfl⟩ := Option.map_eq_some_iff.mp hy
      obtain ⟨R, hR, hH⟩ := ll.get hb
      refine ⟨rfl, ?_⟩
      refine ⟨_, rfl, _, rfl, b, _, rfl, .inl (SqL.of (s2 _ _ hH)), rfl, flat_strs _, _, rfl, ite2 (fun c8 => ?_) (fun c8 => ?_)⟩
      · have mx : x ∈ R := of_decide_eq_true (by
          have z : (if false = true then !inV (.str x) (R.map V.str) else inV (.str x) (R.map V.str)) = true := c8
          rw [if_neg Bool.false_ne_true, inV_strs] at z
          exact z)
        have e := (one n R hR).mp mx
        subst e
        have ea : b = a := by
          rw [hb] at ia
          injection ia
        subst ea
        refine ⟨_, rfl, _, hD, ?_, same_upd2 s2 nD, ?_⟩
        · rw [if_neg (Nat.lt_irrefl n)]
          decide
        · rw [upd_same, if_neg (Nat.lt_irrefl n), if_pos (Nat.lt_succ_self n)]
          rfl
      · have nx : x ∉ R := fun mx => c8 (by
          show (if false = true then !inV (.str x) (R.map V.str) else inV (.str x) (R.map V.str)) = true
          rw [if_neg Bool.false_ne_true, inV_strs]
          exact decide_eq_true mx)
        have ne : n ≠ i := fun e => nx ((one n R hR).mpr e)
        refine ⟨s2, ?_⟩
        rw [hD]
        by_cases c : i < n
        · rw [if_pos c, if_pos (by omega)]
        · rw [if_neg c, if_neg (by omega)]
    · rintro H2 ⟨s2, hD⟩
      have il : i < (as.map V.ref).length := by rw [List.length_map]; exact (List.getElem?_eq_some_iff.mp ia).1
      rw [if_pos il] at hD
      exact ⟨D, _, 0, .ref a, rfl, rfl, SqL.of hD, atI_nat (j := 0) rfl, q _ s2⟩
end
end My

namespace My
open PySem PySem.Spec PyProof.Rows L2 Gy Xl Xs Xt Xo Xp
/-- names, links and parts as they stand while a text is read, all made since H0 -/
structure Ru (H0 H : Hp) (L1 L2 L3 : Addr) (as : List Addr) (ns : List Str) (ks : List (Str × Str)) (Ps : List (List Str)) : Prop where
  sm : Same H0 H
  h1 : H L1 = some (.lst (ns.map V.str))
  ex : ∃ us, H L2 = some (.lst us) ∧ Prs H us ks
  h3 : H L3 = some (.lst (as.map V.ref))
  ll : LL H as Ps
  nd : (L1 :: L2 :: L3 :: as).Nodup
  nw : ∀ b ∈ L1 :: L2 :: L3 :: as, H0 b = none
theorem Ru.same {H0 H H' : Hp} {L1 L2 L3 : Addr} {as : List Addr} {ns : List Str} {ks : List (Str × Str)} {Ps : List (List Str)} (r : Ru H0 H L1 L2 L3 as ns ks Ps) (s : Same H H') : Ru H0 H' L1 L2 L3 as ns ks Ps := by
  obtain ⟨us, e, p⟩ := r.ex
  exact ⟨r.sm.trans s, s _ _ r.h1, ⟨us, s _ _ e, p.same s⟩, s _ _ r.h3, r.ll.same fun a _ o e => s a o e, r.nd, r.nw⟩
theorem _root_.Xt.LL.app {H : Hp} {as bs : List Addr} {Ps Qs : List (List Str)} (h : LL H as Ps) (g : LL H bs Qs) : LL H (as ++ bs) (Ps ++ Qs) := by
  induction h with
  | nil => exact g
  | cons e _ ih => exact .cons e ih
theorem _root_.Xt.LL.erase {H : Hp} : ∀ {as : List Addr} {Ps : List (List Str)}, LL H as Ps → ∀ j, LL H (as.eraseIdx j) (Ps.eraseIdx j)
  | _, _, .nil, j => by simp; exact .nil
  | _, _, .cons e t, 0 => by simpa using t
  | _, _, .cons e t, j + 1 => by
    rw [List.eraseIdx_cons_succ, List.eraseIdx_cons_succ]
    exact .cons e (t.erase j)
theorem _root_.Xt.LL.set {H H' : Hp} {a : Addr} {Q : List Str} (hq : H' a = some (.lst (Q.map V.str))) : ∀ {as : List Addr} {Ps : List (List Str)}, LL H as Ps → ∀ {i : Nat}, as[i]? = some a → as.Nodup → (∀ b ∈ as, b ≠ a → ∀ o, H b = some o → H' b = some o) → LL H' as (Ps.set i Q)
  | _, _, .nil, i, h, _, _ => by simp at h
  | b :: as, P :: Ps, .cons e t, 0, h, nd, s => by
    simp at h
    subst h
    rw [List.set_cons_zero]
    exact .cons hq (t.same fun c hc o ho => s c (List.mem_cons_of_mem _ hc) (fun z => (List.nodup_cons.mp nd).1 (by rw [← z]; exact hc)) o ho)
  | b :: as, P :: Ps, .cons e t, i + 1, h, nd, s => by
    rw [List.getElem?_cons_succ] at h
    rw [List.set_cons_succ]
    obtain ⟨n1, n2⟩ := List.nodup_cons.mp nd
    exact .cons (s b List.mem_cons_self (fun z => n1 (by rw [z]; exact List.mem_of_getElem? h)) _ e) (t.set hq h n2 fun c hc => s c (List.mem_cons_of_mem _ hc))
theorem eqv_strs : ∀ (P R : List Str), PyData.eqv (.list (P.map PyData.str)) (.list (R.map PyData.str)) = decide (P = R)
  | [], [] => rfl
  | [], _ :: _ => rfl
  | _ :: _, [] => rfl
  | x :: P, y :: R => by
    have ih := eqv_strs P R
    have e : PyData.eqv (.list ((x :: P).map PyData.str)) (.list ((y :: R).map PyData.str)) = ((x == y) && PyData.eqv (.list (P.map PyData.str)) (.list (R.map PyData.str))) := by
      simp only [List.map_cons, PyData.eqv, PyData.eqvAll]
    rw [e, ih, Bool.eq_iff_iff, Bool.and_eq_true, beq_iff_eq, decide_eq_true_eq, decide_eq_true_eq]
    exact ⟨fun ⟨a, b⟩ => by rw [a, b], fun z => by injection z with a b; exact ⟨a, b⟩⟩
theorem nd_inj {α : Type} {xs : List α} {a : α} (nd : xs.Nodup) {i j : Nat} (h1 : xs[i]? = some a) (h2 : xs[j]? = some a) : i = j := by
  obtain ⟨l1, e1⟩ := List.getElem?_eq_some_iff.mp h1
  obtain ⟨l2, e2⟩ := List.getElem?_eq_some_iff.mp h2
  have pw := List.pairwise_iff_getElem.mp nd
  rcases Nat.lt_trichotomy i j with h | h | h
  · exact absurd (e1.trans e2.symm) (pw i j l1 l2 h)
  · exact h
  · exact absurd (e2.trans e1.symm) (pw j i l2 l1 h)
theorem part_nd : ∀ {Ps : List (List Str)} {P : List Str}, Ps.flatten.Nodup → P ∈ Ps → P.Nodup
  | Q :: Ps, P, nd, h => by
    rw [List.flatten_cons, List.nodup_append] at nd
    rcases List.mem_cons.mp h with rfl | h
    · exact nd.1
    · exact part_nd nd.2.1 h
/-- names and links as read so far -/
structure Nv (ns : List Str) (ks : List (Str × Str)) : Prop where
  pw : ns.Pairwise fun a b => ltS a b = true
  nm : ∀ x ∈ ns, Nm x
theorem nextH_ok {ns ps : List Str} {x : Str} (h : nextH ns ps = some x) : ps = [("host" : Str), x] ∧ textOf (.str x) LET 8 = true ∧ lastH ns x = true := by
  unfold nextH at h
  cases e : hostOf ps with
  | none =>
    rw [e] at h
    cases h
  | some y =>
    rw [e] at h
    have h : (if lastH ns y = true then some y else none) = some x := h
    split at h
    · next c =>
      injection h with h
      subst h
      obtain ⟨a, b⟩ := hostOf_some e
      exact ⟨a, b, c⟩
    · cases h
theorem stepF_ok {ns ns' : List Str} {ks ks' : List (Str × Str)} {ps : List Str} (v : Nv ns ks) (h : stepF ns ks ps = some (ns', ks')) : Nv ns' ks' ∧ ns'.length + ks'.length = ns.length + ks.length + 1 := by
  unfold stepF at h
  split at h
  · next x e =>
    injection h with h
    injection h with h1 h2
    subst h1
    subst h2
    by_cases c : ks = []
    · rw [if_pos c] at e
      obtain ⟨_, tx, la⟩ := nextH_ok e
      have lt := lastH_lt v.pw la
      refine ⟨⟨List.pairwise_append.mpr ⟨v.pw, List.pairwise_singleton _ _, fun a ha b hb => by rw [List.mem_singleton.mp hb]; exact lt a ha⟩, fun z hz => ?_⟩, by rw [List.length_append]; show _ + 1 + _ = _; omega⟩
      rcases List.mem_append.mp hz with m | m
      · exact v.nm z m
      · rw [List.mem_singleton.mp m]
        exact host_nm tx
    · rw [if_neg c] at e
      cases e
  · split at h
    · next p e =>
      injection h with h
      injection h with h1 h2
      subst h1
      subst h2
      exact ⟨⟨v.pw, v.nm⟩, by rw [List.length_append]; show _ + (_ + 1) = _; omega⟩
    · cases h
section
variable {P : Program} {w : World} {K : PySem.W.Frag} {mg : Str → Option Value} {base : Heap} {H : Hp}
def spLR : Sp := fun vs H Q _ => ∃ (Wd L1 L2 L3 : Addr) (H0 : Hp) (as : List Addr) (ns : List Str) (ks : List (Str × Str)) (Ps : List (List Str)) (ps : List Str), vs = [.ref Wd, .ref L1, .ref L2, .ref L3] ∧ H Wd = some (.lst (ps.map V.str)) ∧ Wd ∉ L1 :: L2 :: L3 :: as ∧ ps ≠ [] ∧
  Ru H0 H L1 L2 L3 as ns ks Ps ∧ Pt ns ks Ps ∧ Nv ns ks ∧ ns.length + ks.length ≤ 59 ∧ (∀ p ∈ ps, p.length ≤ 2000) ∧
  (stepF ns ks ps = none → ∀ H', Same H0 H' → Q (.bl false) H') ∧ ∀ ns' ks', stepF ns ks ps = some (ns', ks') → ∀ H' as' Ps', Ru H0 H' L1 L2 L3 as' ns' ks' Ps' → Pt ns' ks' Ps' → Q (.bl true) H'
theorem ok_lr {f : Addr} {fd : FuncData} (F : Fun K "_law_line_right" "_law_line_right" s_law_line_right f fd) (Y : Bn mg) (G_law_is_name : Fk P w K mg base CX0 1 "_law_is_name" ["_law_value"] (spIsName K)) (G_law_part : Fk P w K mg base CX0 1 "_law_part" ["_law_parts", "_law_name"] spPart) :
    FnOk P w K mg base CX0 2 f fd ["_law_words", "_law_names_here", "_law_links_here", "_law_parts"] spLR := by
  refine F.ok sc_law_line_right (fun vs H Q E h => ?_) (fun cdv A outer s H vs Q E hr h => ?_)
  · obtain ⟨Wd, L1, L2, L3, H0, as, ns, ks, Ps, ps, rfl, _⟩ := h
    rfl
  · obtain ⟨Wd, L1, L2, L3, H0, as, ns, ks, Ps, ps, rfl, hW, nW, ne, ru, pt, nv, l59, pl, qF, qT⟩ := h
    have hu64 := hr.units
    have huc := Nat.lt_of_le_of_lt (Nat.le_add_right _ 64) hu64
    refine ⟨_, (pss_cons (ps_if (pt_cmpR op_eq (pe_ix ix_list (pv 0) pe_int (fun _ _ => rfl)) pe_str (nomark _))
 (pss_cons (ps_if (PW.pt (pw_or (pt_cmpR op_ne (pe_callB call_len_seq (by rfl) Y.len PySem.boot_len (pa_cons (pv 0) pa_nil)) pe_int (nomark _)) (pw_or (pt_cmpR (op_neEmL huc) (pv 2) (pe_lst pa_nil) (nomark _)) (pw_or (pt_not (pt_val (pe_callF G_law_is_name (hr.mono (by decide)) (by rfl) pass0 (pa_cons (pe_ix ix_list (pv 0) pe_int (fun _ _ => rfl)) pa_nil)))) (pw_or1 (PW.pt (pw_and (pt_cmpR (op_neEmL huc) (pv 1) (pe_lst pa_nil) (nomark _)) (pw_and1 (pt_cmpR op_ge_str (pe_ix ix_list (pv 1) (pe_un un_neg pe_int) (fun _ _ => rfl)) (pe_ix ix_list (pv 0) pe_int (fun _ _ => rfl)) (nomark _))))))))))
 (pss_one (ps_ret pe_bl))
 pss_nil)
 (pss_cons (ps_expr (pe_bm PySem.F.plainAttrs_list PySem.F.slot_list_append PySem.F.type_list_append mt_append (pv 1) (pa_cons (pe_ix ix_list (pv 0) pe_int (fun _ _ => rfl)) pa_nil)))
 (pss_cons (ps_expr (pe_bm PySem.F.plainAttrs_list PySem.F.slot_list_append PySem.F.type_list_append mt_append (pv 3) (pa_cons (pe_lst (pa_cons (pe_ix ix_list (pv 0) pe_int (fun _ _ => rfl)) pa_nil)) pa_nil)))
 (pss_one (ps_ret pe_bl)))))
 pss_nil)
 (pss_cons (ps_if (PW.pt (pw_or (pt_cmpR op_ne (pe_ix ix_list (pv 0) pe_int (fun _ _ => rfl)) pe_str (nomark _)) (pw_or (pt_cmpR op_ne (pe_callB call_len_seq (by rfl) Y.len PySem.boot_len (pa_cons (pv 0) pa_nil)) pe_int (nomark _)) (pw_or (pt_cmpR op_notIn_seq (pe_ix ix_list (pv 0) pe_int (fun _ _ => rfl)) (pv 1) rfl) (pw_or1 (pt_cmpR op_notIn_seq (pe_ix ix_list (pv 0) pe_int (fun _ _ => rfl)) (pv 1) rfl))))))
 (pss_one (ps_ret pe_bl))
 pss_nil)
 (pss_cons (ps_set (i := 4) sc_law_line_right.nd rfl (.inl rfl) (pe_tupZ (pa_cons (pe_ix ix_list (pv 0) pe_int (fun _ _ => rfl)) (pa_cons (pe_ix ix_list (pv 0) pe_int (fun _ _ => rfl)) pa_nil))))
 (pss_cons (ps_if (PW.pt (pw_or (pt_cmpR op_ge_str (pe_ix ix_tup (pv 4) pe_int (fun _ _ => rfl)) (pe_ix ix_tup (pv 4) pe_int (fun _ _ => rfl)) (nomark _)) (pw_or1 (PW.pt (pw_and (pt_cmpR (op_neEmL huc) (pv 2) (pe_lst pa_nil) (nomark _)) (pw_and1 (pt_cmpR (op_geP huc) (pe_ix ix_list (pv 2) (pe_un un_neg pe_int) (fun _ _ => rfl)) (pv 4) (nomark _))))))))
 (pss_one (ps_ret pe_bl))
 pss_nil)
 (pss_cons (ps_par (i := 5) (j := 6) (by rfl) sc_law_line_right.nd rfl rfl (by decide) rfl rfl (pa_cons (pe_callF G_law_part (hr.mono (by decide)) (by rfl) pass0 (pa_cons (pv 3) (pa_cons (pe_ix ix_tup (pv 4) pe_int (fun _ _ => rfl)) pa_nil))) (pa_cons (pe_callF G_law_part (hr.mono (by decide)) (by rfl) pass0 (pa_cons (pv 3) (pa_cons (pe_ix ix_tup (pv 4) pe_int (fun _ _ => rfl)) pa_nil))) pa_nil)) (by rfl))
 (pss_cons (ps_if (pt_cmpR (op_eqD hu64) (pv 5) (pv 6) (nomark _))
 (pss_one (ps_ret pe_bl))
 pss_nil)
 (pss_cons (ps_expr (pe_bm PySem.F.plainAttrs_list PySem.F.slot_list_append PySem.F.type_list_append mt_append (pv 2) (pa_cons (pv 4) pa_nil)))
 (pss_cons (ps_expr (pe_bm PySem.F.plainAttrs_list PySem.F.slot_list_remove PySem.F.type_list_remove (mt_removeL hu64) (pv 3) (pa_cons (pv 6) pa_nil)))
 (pss_cons (ps_expr (pe_bm PySem.F.plainAttrs_list PySem.F.slot_list_extend PySem.F.type_list_extend mt_extend (pv 5) (pa_cons (pv 6) pa_nil)))
 (pss_one (ps_ret pe_bl))))))))))), ?_⟩
    obtain ⟨us, hL2, pr⟩ := ru.ex
    have hL1 := ru.h1
    have hL3 := ru.h3
    obtain ⟨w0, rest, rfl⟩ := List.exists_cons_of_ne_nil ne
    have plen := pt.len
    have aslen := ru.ll.len
    have nd4 := ru.nd
    simp only [List.nodup_cons, List.mem_cons, not_or] at nd4
    obtain ⟨⟨n12, n13, n1a⟩, ⟨n23, n2a⟩, n3a, nda⟩ := nd4
    simp only [List.mem_cons, not_or] at nW
    obtain ⟨nW1, nW2, nW3, nWa⟩ := nW
    have no : stepF ns ks (w0 :: rest) = none → ∀ {H'}, Same H H' → Q (.bl false) H' := fun e H' s => qF e H' (ru.sm.trans s)
    have noL : nextL ns ks (w0 :: rest) = none → (ks = [] → nextH ns (w0 :: rest) = none) → stepF ns ks (w0 :: rest) = none := fun e1 e2 => by
      unfold stepF
      by_cases c : ks = []
      · rw [if_pos c, e2 c]
        dsimp only
        rw [e1]
      · rw [if_neg c]
        dsimp only
        rw [e1]
    have nl0 : w0 ≠ "link" → nextL ns ks (w0 :: rest) = none := fun c => nextL_no (by
      cases z : linkOf (w0 :: rest) with
      | none => rfl
      | some p =>
        obtain ⟨z, _⟩ := linkOf_some z
        injection z with z
        exact absurd z c)
    have nh0 : w0 ≠ "host" → nextH ns (w0 :: rest) = none := fun c => nextH_no (by
      cases z : hostOf (w0 :: rest) with
      | none => rfl
      | some p =>
        obtain ⟨z, _⟩ := hostOf_some z
        injection z with z
        exact absurd z c)
    refine ⟨_, rfl, Wd, _, 0, .str w0, rfl, rfl, SqL.of hW, atI_nat (j := 0) rfl, rfl, _, rfl, ?_⟩
    by_cases e0 : w0 = "host"
    · rw [decide_eq_true (show V.str w0 = V.str "host" by rw [e0])]
      refine iteT ?_
      have wl : w0 ≠ "link" := by rw [e0]; decide +kernel
      have nl := nl0 wl
      refine ⟨_, rfl, Wd, _, rfl, .inl (SqL.of hW), rfl, _, rfl, ?_⟩
      have two : rest.length = 1 ∨ rest.length ≠ 1 := by omega
      rcases two with l2 | l2
      rotate_left
      · rw [List.length_map, List.length_cons, decide_eq_false (show ¬ V.int ((rest.length + 1 : Nat) : Int) = V.int 2 from fun z => l2 (by injection z with z; omega))]
        refine iteT (iteT (no (noL nl fun _ => nextH_no ?_) (Same.refl _)))
        match rest, l2 with
        | [], _ => rfl
        | [_], h => exact absurd rfl h
        | _ :: _ :: _, _ => rfl
      obtain ⟨x, rfl⟩ : ∃ x, rest = [x] := by
        match rest, l2 with
        | [x], _ => exact ⟨x, rfl⟩
      refine iteF ?_
      refine ⟨_, rfl, Nat.zero_le _, fun D nD => ?_⟩
      generalize hg : upd H D _ = H1
      obtain ⟨s1, g1⟩ := upd_new hg nD
      clear hg
      refine ⟨L2, D, us, rfl, rfl, SqL.of (s1 _ _ hL2), SqL.of g1, _, rfl, ?_⟩
      have ul := prs_len pr
      by_cases ek : ks = []
      rotate_left
      · have : us.isEmpty = false := by
          cases us with
          | nil => exact absurd (List.length_eq_zero_iff.mp ul.symm) ek
          | cons _ _ => rfl
        rw [this]
        exact iteT (iteT (no (noL nl fun z => absurd z ek) s1))
      subst ek
      have u0 : us = [] := List.length_eq_zero_iff.mp ul
      subst u0
      refine iteF ?_
      refine ⟨_, rfl, Wd, _, 1, .str x, rfl, rfl, SqL.of (s1 _ _ hW), atI_nat (j := 1) rfl, .str x, .str x, rfl, .str x, decide_eq_true (pl x (List.mem_cons_of_mem _ List.mem_cons_self)), fun H2 s2 => ⟨_, rfl, ?_⟩⟩
      have s02 := s1.trans s2
      cases tx : isHost (.str x) with
      | false =>
        refine iteT (iteT (no (noL nl fun _ => nextH_no ?_) s02))
        rw [hostOf2, if_neg]
        rintro ⟨_, z⟩
        rw [show textOf (.str x) LET 8 = isHost (.str x) from rfl, tx] at z
        cases z
      | true =>
        refine iteF ?_
        have ho : hostOf [w0, x] = some x := by rw [hostOf2, if_pos ⟨e0, tx⟩]
        have nx : nextH ns [w0, x] = if lastH ns x = true then some x else none := by
          unfold nextH
          rw [ho]
        refine ⟨_, rfl, Nat.zero_le _, fun D2 nD2 => ?_⟩
        generalize hg : upd H2 D2 _ = H3
        obtain ⟨s3, g3⟩ := upd_new hg nD2
        clear hg
        have s03 := s02.trans s3
        refine ⟨L1, D2, _, rfl, rfl, SqL.of (s03 _ _ hL1), SqL.of g3, _, rfl, ?_⟩
        rcases List.eq_nil_or_concat ns with en | ⟨gs, y, en⟩
        case' inl =>
          rw [show (!(ns.map V.str).isEmpty) = false by rw [en]; rfl]
          refine iteF (iteF ?_)
          have la : lastH ns x = true := by rw [en]; rfl
        case' inr =>
          rw [List.concat_eq_append] at en
          rw [show (!(ns.map V.str).isEmpty) = true by rw [en, List.map_append]; simp]
          refine iteT ?_
          have lt : atI (ns.map V.str) (-1) = some (.str y) := by
            rw [en]
            exact last_is _ _
          have lh : lastH ns x = ltS y x := by
            unfold lastH
            rw [en, List.getLast?_append]
            rfl
          refine ⟨_, rfl, 1, rfl, L1, _, -1, .str y, rfl, rfl, SqL.of (s03 _ _ hL1), lt, _, rfl, Wd, _, 1, .str x, rfl, rfl, SqL.of (s03 _ _ hW), atI_nat (j := 1) rfl, _, _, rfl, rfl, _, rfl, ?_⟩
          by_cases lx : ltS y x = true
          rotate_left
          · rw [Bool.not_eq_true] at lx
            rw [show decide (y.cps.toList < x.cps.toList) = false from lx]
            refine iteT (no (noL nl fun _ => ?_) s03)
            rw [nx, lh, lx, if_neg Bool.false_ne_true]
          rw [show decide (y.cps.toList < x.cps.toList) = true from lx]
          refine iteF ?_
          have la : lastH ns x = true := by rw [lh, lx]
        all_goals
          have sx : stepF ns [] [w0, x] = some (ns ++ [x], []) := by
            unfold stepF
            rw [if_pos rfl, nx, if_pos la]
          have hL13 := s03 _ _ hL1
          have hL33 := s03 _ _ hL3
          have hW3 := s03 _ _ hW
          have hL23 := s03 _ _ hL2
          refine ⟨_, rfl, .inl ⟨rfl, _, SqL.of hL13⟩, _, rfl, Wd, _, 1, .str x, rfl, rfl, SqL.of hW3, atI_nat (j := 1) rfl, L1, _, _, rfl, rfl, hL13, (by rw [List.length_map]; exact small200 (by omega)), ?_⟩
          generalize hH4 : upd H3 L1 _ = H4
          have k4 : ∀ b, b ≠ L1 → H4 b = H3 b := fun b nb => by rw [← hH4, upd_ne nb]
          have e4 : H4 L1 = some (.lst ((ns ++ [x]).map V.str)) := by rw [← hH4, upd_same, List.map_append]; rfl
          have hW4 : H4 Wd = some (.lst (([w0, x] : List Str).map V.str)) := by rw [k4 _ nW1]; exact hW3
          have hL34 : H4 L3 = some (.lst (as.map V.ref)) := by rw [k4 _ (Ne.symm n13)]; exact hL33
          refine ⟨_, rfl, .inl ⟨rfl, _, SqL.of hL34⟩, _, rfl, Wd, _, 1, .str x, rfl, rfl, SqL.of hW4, atI_nat (j := 1) rfl, (by show 1 ≤ sizeLine; decide), fun N nN => ?_⟩
          generalize hH5 : upd H4 N _ = H5
          obtain ⟨s5, g5⟩ := upd_new hH5 nN
          clear hH5
          have hL35 := s5 _ _ hL34
          have nN3 : N ≠ L3 := fun z => by rw [z, hL34] at nN; cases nN
          have nN1 : N ≠ L1 := fun z => by rw [z, e4] at nN; cases nN
          have hL24 : H4 L2 = some (.lst []) := by rw [k4 _ (Ne.symm n12)]; exact hL23
          have nN2 : N ≠ L2 := fun z => by rw [z, hL24] at nN; cases nN
          have as4 : ∀ a ∈ as, ∀ o, H a = some o → H4 a = some o := fun a ha o e => by
            rw [k4 _ fun z => n1a (by rw [← z]; exact ha)]
            exact s03 _ _ e
          have nNa : N ∉ as := fun ha => by
            obtain ⟨k, hk⟩ := List.getElem?_of_mem ha
            obtain ⟨R, _, hR⟩ := ru.ll.get hk
            rw [as4 _ ha _ hR] at nN
            cases nN
          have nN0 : H0 N = none := by
            cases z : H0 N with
            | none => rfl
            | some o =>
              have := s03 _ _ (ru.sm _ _ z)
              rw [← k4 N nN1, nN] at this
              cases this
          refine ⟨L3, _, _, rfl, rfl, hL35, (by rw [List.length_map]; exact small200 (by omega)), ?_⟩
          have lst5 : (upd H5 L3 (.lst (as.map V.ref ++ [.ref N]))) L3 = some (.lst ((as ++ [N]).map V.ref)) := by rw [upd_same, List.map_append]; rfl
          refine qT _ _ sx _ (as ++ [N]) (Ps ++ [[x]]) ⟨?_, ?_, ⟨[], ?_, .nil⟩, lst5, LL.app (ru.ll.same fun a ha o e => ?_) (.cons ?_ .nil), ?_, fun b hb => ?_⟩ (pt.host fun mx => ?_)
          · intro b o e
            have b3 : b ≠ L3 := fun z => by rw [z, ru.nw L3 (by simp)] at e; cases e
            have b1 : b ≠ L1 := fun z => by rw [z, ru.nw L1 (by simp)] at e; cases e
            rw [upd_ne b3]
            refine s5 _ _ ?_
            rw [k4 _ b1]
            exact s03 _ _ (ru.sm _ _ e)
          · rw [upd_ne n13]
            exact s5 _ _ e4
          · rw [upd_ne n23]
            exact s5 _ _ hL24
          · rw [upd_ne fun z => n3a (by rw [← z]; exact ha)]
            exact s5 _ _ (as4 a ha o e)
          · rw [upd_ne nN3]
            exact g5
          · have := ru.nd
            simp only [List.nodup_cons, List.mem_cons, List.mem_append, List.not_mem_nil, or_false, not_or]
            refine ⟨⟨n12, n13, n1a, Ne.symm nN1⟩, ⟨n23, n2a, Ne.symm nN2⟩, ⟨n3a, Ne.symm nN3⟩, nodup_snoc nda nNa⟩
          · simp only [List.mem_cons, List.mem_append, List.not_mem_nil, or_false] at hb
            rcases hb with rfl | rfl | rfl | hb | rfl
            · exact ru.nw _ (by simp)
            · exact ru.nw _ (by simp)
            · exact ru.nw _ (by simp)
            · exact ru.nw _ (by simp [hb])
            · exact nN0
          · have := lastH_lt nv.pw la x mx
            rw [ltS_irr] at this
            cases this
    · rw [decide_eq_false (show ¬ V.str w0 = V.str "host" from fun z => e0 (by injection z))]
      refine iteF ?_
      have exit : nextL ns ks (w0 :: rest) = none → ∀ {H'}, Same H H' → Q (.bl false) H' := fun e H' s => no (noL e fun _ => nh0 e0) s
      refine ⟨_, rfl, Wd, _, 0, .str w0, rfl, rfl, SqL.of hW, atI_nat (j := 0) rfl, rfl, _, rfl, ?_⟩
      by_cases e1 : w0 = "link"
      rotate_left
      · rw [decide_eq_false (show ¬ V.str w0 = V.str "link" from fun z => e1 (by injection z))]
        exact iteT (iteT (exit (nl0 e1) (Same.refl _)))
      rw [decide_eq_true (show V.str w0 = V.str "link" by rw [e1])]
      refine iteF ?_
      refine ⟨_, rfl, Wd, _, rfl, .inl (SqL.of hW), rfl, _, rfl, ?_⟩
      have two : rest.length = 2 ∨ rest.length ≠ 2 := by omega
      rcases two with l2 | l2
      rotate_left
      · rw [List.length_map, List.length_cons, decide_eq_false (show ¬ V.int ((rest.length + 1 : Nat) : Int) = V.int 3 from fun z => l2 (by injection z with z; omega))]
        refine iteT (iteT (exit (nextL_no ?_) (Same.refl _)))
        match rest, l2 with
        | [], _ => rfl
        | [_], _ => rfl
        | [_, _], h => exact absurd rfl h
        | _ :: _ :: _ :: _, _ => rfl
      obtain ⟨x, y, rfl⟩ : ∃ x y, rest = [x, y] := by
        match rest, l2 with
        | [x, y], _ => exact ⟨x, y, rfl⟩
      refine iteF ?_
      have nx : nextL ns ks [w0, x, y] = if ltS x y = true ∧ lastL ks (x, y) = true ∧ x ∈ ns ∧ y ∈ ns ∧ rcB ks x y = false then some (x, y) else none := by
        unfold nextL
        rw [linkOf3]
        by_cases c : ltS x y = true
        · rw [if_pos ⟨e1, c⟩]
          dsimp only
          by_cases c2 : lastL ks (x, y) = true ∧ x ∈ ns ∧ y ∈ ns ∧ rcB ks x y = false
          · rw [if_pos c2, if_pos ⟨c, c2⟩]
          · rw [if_neg c2, if_neg fun z => c2 z.2]
        · rw [if_neg fun z => c z.2, if_neg fun z => c z.1]
      have hv : ∀ z, (if true = true then !inV (.str z) (ns.map V.str) else inV (.str z) (ns.map V.str)) = !decide (z ∈ ns) := fun z => by rw [if_pos rfl, inV_strs]
      refine ⟨_, rfl, Wd, _, 1, .str x, rfl, rfl, SqL.of hW, atI_nat (j := 1) rfl, _, rfl, L1, _, rfl, .inl (SqL.of hL1), rfl, flat_strs _, _, rfl, ?_⟩
      refine ite2 (fun c => ?_) (fun c => ?_)
      · have mx : x ∉ ns := fun m => by
          rw [hv x, decide_eq_true m] at c
          cases c
        exact iteT (exit (by rw [nx, if_neg fun z => mx z.2.2.1]) (Same.refl _))
      have mx : x ∈ ns := Classical.byContradiction fun m => c (by rw [hv x, decide_eq_false m]; rfl)
      clear c
      refine ⟨_, rfl, Wd, _, 2, .str y, rfl, rfl, SqL.of hW, atI_nat (j := 2) rfl, _, rfl, L1, _, rfl, .inl (SqL.of hL1), rfl, flat_strs _, _, rfl, ?_⟩
      refine ite2 (fun c => ?_) (fun c => ?_)
      · have my : y ∉ ns := fun m => by
          rw [hv y, decide_eq_true m] at c
          cases c
        exact exit (by rw [nx, if_neg fun z => my z.2.2.2.1]) (Same.refl _)
      have my : y ∈ ns := Classical.byContradiction fun m => c (by rw [hv y, decide_eq_false m]; rfl)
      clear c
      refine ⟨_, rfl, Wd, _, 1, .str x, rfl, rfl, SqL.of hW, atI_nat (j := 1) rfl, _, rfl, Wd, _, 2, .str y, rfl, rfl, SqL.of hW, atI_nat (j := 2) rfl, (by show 2 ≤ sizeLine; decide), fun t o nt st zt => ?_⟩
      generalize upd H t o = H1 at st zt ⊢
      refine ⟨_, rfl, t, _, 0, .str x, rfl, rfl, zt.sq, atI_nat (j := 0) rfl, _, rfl, t, _, 1, .str y, rfl, rfl, zt.sq, atI_nat (j := 1) rfl, _, _, rfl, rfl, _, rfl, ?_⟩
      by_cases lt : ltS x y = true
      rotate_left
      · rw [show decide (x.cps.toList < y.cps.toList) = false from Bool.not_eq_true _ ▸ lt]
        exact iteT (iteT (exit (by rw [nx, if_neg fun z => lt z.1]) st))
      rw [show decide (x.cps.toList < y.cps.toList) = true from lt]
      refine iteF ?_
      refine ⟨_, rfl, Nat.zero_le _, fun D2 nD2 => ?_⟩
      generalize hg : upd H1 D2 _ = H3
      obtain ⟨s3, g3⟩ := upd_new hg nD2
      clear hg
      have s03 := st.trans s3
      have zt3 := zt.same s3
      have ul := prs_len pr
      refine ⟨L2, D2, us, rfl, rfl, SqL.of (s03 _ _ hL2), SqL.of g3, _, rfl, ?_⟩
      have pr3 := pr.same s03
      rcases List.eq_nil_or_concat ks with en | ⟨gs, q0, en⟩
      case' inl =>
        have u0 : us.isEmpty = true := by
          rw [en] at ul
          rw [List.length_eq_zero_iff.mp ul]
          rfl
        rw [show (!us.isEmpty) = false by rw [u0]; rfl]
        refine iteF (iteF ?_)
        have la : lastL ks (x, y) = true := by rw [en]; rfl
      case' inr =>
        rw [List.concat_eq_append] at en
        have ul2 : us.length = gs.length + 1 := by rw [ul, en, List.length_append]; rfl
        obtain ⟨v, hv2⟩ : ∃ v, us[gs.length]? = some v := ⟨_, List.getElem?_eq_getElem (by omega)⟩
        obtain ⟨e, te, he, rfl, tz⟩ := prs_get pr3 hv2
        rw [en, List.getElem?_append_right (Nat.le_refl _), Nat.sub_self] at he
        cases he
        have eu : us = us.take gs.length ++ [.ref te] := by
          conv => lhs; rw [← List.take_of_length_le (l := us) (i := gs.length + 1) (by omega)]
          exact take_last hv2
        rw [show (!us.isEmpty) = true by rw [eu]; simp]
        refine iteT ?_
        have lt2 : atI us (-1) = some (.ref te) := by
          rw [eu]
          exact atI_last _ _
        have lh : lastL ks (x, y) = lexS q0 (x, y) := by rw [en, lastL_app]
        refine ⟨_, rfl, 1, rfl, L2, _, -1, .ref te, rfl, rfl, SqL.of (s03 _ _ hL2), lt2, _, rfl, te, t, q0, (x, y), rfl, rfl, tz, zt3, _, rfl, ?_⟩
        by_cases lx : lexS q0 (x, y) = true
        rotate_left
        · rw [Bool.not_eq_true] at lx
          rw [lx]
          refine iteT (exit ?_ s03)
          rw [nx, lh, lx, if_neg]
          rintro ⟨_, z, _⟩
          cases z
        rw [lx]
        refine iteF ?_
        have la : lastL ks (x, y) = true := by rw [lh, lx]
      all_goals
        have hL33 := s03 _ _ hL3
        have ll3 : LL H3 as Ps := ru.ll.same fun a _ o e => s03 a o e
        obtain ⟨i, Pi, hi, mi⟩ := pt.at mx
        obtain ⟨j, Pj, hj, mj⟩ := pt.at my
        have il : i < as.length := by rw [aslen]; exact (List.getElem?_eq_some_iff.mp hi).1
        have jl : j < as.length := by rw [aslen]; exact (List.getElem?_eq_some_iff.mp hj).1
        obtain ⟨ai, hai⟩ : ∃ a, as[i]? = some a := ⟨_, List.getElem?_eq_getElem il⟩
        obtain ⟨aj, haj⟩ : ∃ a, as[j]? = some a := ⟨_, List.getElem?_eq_getElem jl⟩
        have one : ∀ z k R, z ∈ R → Ps[k]? = some R → ∀ n S, Ps[n]? = some S → (z ∈ S ↔ n = k) := fun z k R mz hk n S hn => by
          constructor
          · exact fun m => flat_one pt.nd hn hk m mz
          · rintro rfl
            rw [hk] at hn
            injection hn with hn
            rw [← hn]
            exact mz
        have a60 : as.length ≤ 60 := by omega
        refine ⟨_, rfl, _, rfl, t, _, 0, .str x, rfl, rfl, zt3.sq, atI_nat (j := 0) rfl, L3, as, Ps, x, i, ai, rfl, hL33, ll3, a60, hai, one x i Pi mi hi, fun H4 s4 => ?_⟩
        have ll4 : LL H4 as Ps := ll3.same fun a _ o e => s4 a o e
        have zt4 := zt3.same s4
        refine ⟨_, rfl, _, rfl, t, _, 1, .str y, rfl, rfl, zt4.sq, atI_nat (j := 1) rfl, L3, as, Ps, y, j, aj, rfl, s4 _ _ hL33, ll4, a60, haj, one y j Pj mj hj, fun H5 s5 => ?_⟩
        have s05 := (s03.trans s4).trans s5
        have ll5 : LL H5 as Ps := ll4.same fun a _ o e => s5 a o e
        have zt5 := zt4.same s5
        obtain ⟨Pi2, hi2, hPi⟩ := ll5.get hai
        obtain ⟨Pj2, hj2, hPj⟩ := ll5.get haj
        rw [hi] at hi2
        cases hi2
        rw [hj] at hj2
        cases hj2
        have nmP : ∀ k R, Ps[k]? = some R → ∀ z ∈ R, Nm z := fun k R hk z hz => nv.nm z ((pt.mem z).mp (List.mem_flatten.mpr ⟨R, List.mem_of_getElem? hk, hz⟩))
        have rb := pt.rcB hi hj mi mj
        refine ⟨_, _, rfl, _, rfl, _, rfl, .list (Pi.map PyData.str), .list (Pj.map PyData.str), .lst (SqL.of hPi) (dps_strs _), .lst (SqL.of hPj) (dps_strs _), sh_strs _ (nmP i Pi hi), sh_strs _ (nmP j Pj hj), _, rfl, ?_⟩
        rw [eqv_strs]
        by_cases ep : Pi = Pj
        · rw [decide_eq_true ep]
          refine iteT (exit ?_ s05)
          rw [nx, rb, decide_eq_true ep, if_neg]
          rintro ⟨_, _, _, _, z⟩
          cases z
        rw [decide_eq_false ep]
        refine iteF ?_
        have nij : i ≠ j := fun z => by
          subst z
          rw [hi] at hj
          injection hj with hj
          exact ep hj
        have naij : ai ≠ aj := fun z => by
          rw [← z] at haj
          exact nij (nd_inj nda hai haj)
        have mai : ai ∈ as := List.mem_of_getElem? hai
        have maj : aj ∈ as := List.mem_of_getElem? haj
        have sx : stepF ns ks [w0, x, y] = some (ns, ks ++ [(x, y)]) := by
          have nxt : nextL ns ks [w0, x, y] = some (x, y) := by rw [nx, rb, decide_eq_false ep, if_pos ⟨lt, la, mx, my, rfl⟩]
          unfold stepF
          have e : (if ks = [] then nextH ns [w0, x, y] else none) = none := by
            by_cases c : ks = []
            · rw [if_pos c, nh0 e0]
            · rw [if_neg c]
          rw [e]
          dsimp only
          rw [nxt]
        have hL25 := s05 _ _ hL2
        have pr5 := pr.same s05
        refine ⟨_, rfl, .inl ⟨rfl, _, SqL.of hL25⟩, _, rfl, L2, _, _, rfl, rfl, hL25, (by rw [ul]; exact small200 (by omega)), ?_⟩
        generalize hH6 : upd H5 L2 _ = H6
        have k6 : ∀ b, b ≠ L2 → H6 b = H5 b := fun b nb => by rw [← hH6, upd_ne nb]
        have e6 : H6 L2 = some (.lst (us ++ [.ref t])) := by rw [← hH6, upd_same]
        have pr6 : Prs H6 (us ++ [.ref t]) (ks ++ [(x, y)]) := by
          rw [← hH6]
          exact prs_updL hL25 (prs_app pr5 (.cons ⟨t, rfl, zt5⟩ .nil))
        have hL36 : H6 L3 = some (.lst (as.map V.ref)) := by rw [k6 _ (Ne.symm n23)]; exact s05 _ _ hL3
        have ne2 : ∀ a ∈ as, a ≠ L2 := fun a ha z => n2a (by rw [← z]; exact ha)
        have ne3 : ∀ a ∈ as, a ≠ L3 := fun a ha z => n3a (by rw [← z]; exact ha)
        have ll6 : LL H6 as Ps := ll5.same fun a ha o e => by rw [k6 _ (ne2 a ha)]; exact e
        have hPj6 : H6 aj = some (.lst (Pj.map V.str)) := by rw [k6 _ (ne2 _ maj)]; exact hPj
        have hPi6 : H6 ai = some (.lst (Pi.map V.str)) := by rw [k6 _ (ne2 _ mai)]; exact hPi
        refine ⟨_, rfl, .inl ⟨rfl, _, SqL.of hL36⟩, _, rfl, L3, aj, as, Ps, Pj, j, rfl, rfl, hL36, ll6, hPj6, hj, fun m hm e => ?_, ?_⟩
        · have := flat_one pt.nd e hj mj mj
          omega
        generalize hH7 : upd H6 L3 _ = H7
        have k7 : ∀ b, b ≠ L3 → H7 b = H6 b := fun b nb => by rw [← hH7, upd_ne nb]
        have e7 : H7 L3 = some (.lst ((as.eraseIdx j).map V.ref)) := by rw [← hH7, upd_same]
        have hPi7 : H7 ai = some (.lst (Pi.map V.str)) := by rw [k7 _ (ne3 _ mai)]; exact hPi6
        have hPj7 : H7 aj = some (.lst (Pj.map V.str)) := by rw [k7 _ (ne3 _ maj)]; exact hPj6
        have lP : ∀ (k : Nat) (R : List Str), Ps[k]? = some R → R.length ≤ 60 := fun k R hk => by
          have ndR : R.Nodup := part_nd pt.nd (List.mem_of_getElem? hk)
          have := len_le_of_sub ndR (fun z hz => (pt.mem z).mp (List.mem_flatten.mpr ⟨R, List.mem_of_getElem? hk, hz⟩))
          omega
        have lPi := lP i Pi hi
        have lPj := lP j Pj hj
        refine ⟨_, rfl, .inl ⟨rfl, _, SqL.of hPi7⟩, _, rfl, ai, aj, _, _, rfl, rfl, hPi7, hPj7, (by rw [List.length_map, List.length_map]; exact le200 (by omega)), ?_⟩
        have sl : (as.eraseIdx j).Sublist as := List.eraseIdx_sublist ..
        have n1i : L1 ≠ ai := fun z => n1a (by rw [z]; exact mai)
        refine qT _ _ sx _ (as.eraseIdx j) (mrg Ps i j Pi Pj) ⟨?_, ?_, ⟨us ++ [.ref t], ?_, ?_⟩, ?_, ?_, ?_, fun b hb => ?_⟩ (pt.link hi hj nij mi mj)
        · intro b o e
          have b3 : b ≠ L3 := fun z => by rw [z, ru.nw L3 (by simp)] at e; cases e
          have b2 : b ≠ L2 := fun z => by rw [z, ru.nw L2 (by simp)] at e; cases e
          have ba : b ≠ ai := fun z => by rw [z, ru.nw ai (by simp [mai])] at e; cases e
          rw [upd_ne ba, k7 _ b3, k6 _ b2]
          exact s05 _ _ (ru.sm _ _ e)
        · rw [upd_ne n1i, k7 _ n13, k6 _ n12]
          exact s05 _ _ hL1
        · rw [upd_ne (ne2 _ mai).symm, k7 _ n23]
          exact e6
        · refine prs_updL hPi7 ?_
          rw [← hH7]
          exact prs_updL hL36 pr6
        · rw [upd_ne (ne3 _ mai).symm]
          exact e7
        · refine LL.erase ?_ j
          refine LL.set (H := H6) (a := ai) ?_ ll6 hai nda fun b hb nb o e => ?_
          · rw [upd_same, List.map_append]
          · rw [upd_ne nb, k7 _ (ne3 _ hb)]
            exact e
        · exact ru.nd.sublist (List.Sublist.cons₂ _ (List.Sublist.cons₂ _ (List.Sublist.cons₂ _ sl)))
        · refine ru.nw b ?_
          simp only [List.mem_cons] at hb ⊢
          rcases hb with h | h | h | h
          · exact .inl h
          · exact .inr (.inl h)
          · exact .inr (.inr (.inl h))
          · exact .inr (.inr (.inr (sl.subset h)))
end
end My

namespace My
open PySem PySem.Spec PyProof.Rows L2 Gy Xl Xs Xt Xo Xp
theorem readF_app {q : List Str} {r : List (List Str)} {gs : List Str} {hs : List (Str × Str)} : ∀ {ps : List (List Str)} {ns : List Str} {ks : List (Str × Str)}, readF ns ks ps = (gs, hs, true) → readF ns ks (ps ++ q :: r) = readF gs hs (q :: r)
  | [], ns, ks, h => by
    have h : (ns, ks, true) = (gs, hs, true) := h
    injection h with h1 h2
    injection h2 with h2
    rw [h1, h2]
    rfl
  | p :: ps, ns, ks, h => by
    rw [List.cons_append]
    unfold readF at h ⊢
    cases e : stepF ns ks p with
    | none =>
      rw [e] at h
      have h : (ns, ks, false) = (gs, hs, true) := h
      injection h with _ h
      injection h with _ h
      cases h
    | some x =>
      rw [e] at h
      exact readF_app (ps := ps) h
theorem linesF_eq (ls : List Str) {ns : List Str} {ks : List (Str × Str)} {b : Bool} (h : readF [] [] (ls.map fun l => Txt.split l " ") = (ns, ks, b)) : linesF ls = if b = false then .inr (ns.length + ks.length + 1) else if ns = [] then .inr (ls.length + 1) else match connF ns ks with
    | some _ => .inr (ls.length + 1)
    | none => .inl (ns, ks) := by
  rw [readF_fl] at h
  injection h with h1 h2
  unfold linesF
  dsimp only
  rw [h1] at h2 ⊢
  rw [h2]
  all_goals rfl
theorem textF_eq {x : Str} {ps : List Str} {r : Str} (eps : Txt.split x "\n" = ps ++ [r]) : textF x = match linesF ps with
    | .inr n => .inr n
    | .inl t => if r = "" then .inl t else .inr (ps.length + 1) := by
  unfold textF
  dsimp only
  rw [eps, List.dropLast_concat]
  cases linesF ps with
  | inr n => rfl
  | inl t =>
    dsimp only
    rw [List.getLast?_append, List.length_append]
    show (if some r = some ("" : Str) then Sum.inl t else Sum.inr (ps.length + 1)) = _
    by_cases c : r = ""
    · rw [if_pos c, if_pos (by rw [c])]
    · rw [if_neg c, if_neg fun z => c (by injection z)]
def dueT : (List Str × List (Str × Str)) ⊕ Nat → PyData
  | .inr n => .int (n : Int)
  | .inl t => .tuple [.list (t.1.map PyData.str), .list (t.2.map prD)]
/-- what is due for a value that is read -/
noncomputable def dueD : PyData → PyData
  | .str x => dueT (textF x)
  | _ => .int 0
theorem dueD_no {d : PyData} (h : ∀ x, d ≠ .str x) : dueD d = .int 0 := by
  cases d with
  | str x => exact absurd rfl (h x)
  | _ => rfl
theorem dueD_r {x : Str} {n : Nat} (h : textF x = .inr n) : dueD (.str x) = .int (n : Int) := by
  show dueT (textF x) = _
  rw [h]
  rfl
theorem dueD_l {x : Str} {hs : List Str} {ks : List (Str × Str)} (h : textF x = .inl (hs, ks)) : dueD (.str x) = .tuple [.list (hs.map PyData.str), .list (ks.map prD)] := by
  show dueT (textF x) = _
  rw [h]
  rfl
/-- a value that may be read: a text is short -/
def OkV (d : PyData) : Prop := ∀ x, d = .str x → x.length ≤ 2000 ∧ (Txt.split x "\n").length ≤ 60 ∧ ∀ l ∈ Txt.split x "\n", OkL l
section
variable {P : Program} {w : World} {K : PySem.W.Frag} {mg : Str → Option Value} {base : Heap} {H : Hp}
def spRead (K : PySem.W.Frag) : Sp := fun vs H Q _ => ∃ (v : V) (d : PyData), vs = [v] ∧ Dn K H v d ∧ OkV d ∧ ∀ H' v', Same H H' → Dn K H' v' (dueD d) → Q v' H'
theorem ok_read {f : Addr} {fd : FuncData} (F : Fun K "_law_read" "_law_read" s_law_read f fd) (Y : Bn mg) (G_law_line_right : Fk P w K mg base CX0 2 "_law_line_right" ["_law_words", "_law_names_here", "_law_links_here", "_law_parts"] spLR) : FnOk P w K mg base CX0 3 f fd ["_law_text"] (spRead K) := by
  refine F.ok sc_law_read (fun vs H Q E h => ?_) (fun cdv A outer s H vs Q E hr h => ?_)
  · obtain ⟨v, d, rfl, _⟩ := h
    rfl
  · obtain ⟨v, d, rfl, dn, ov, q⟩ := h
    refine ⟨_, (pss_cons (ps_if (pt_not (pt_val (pe_callB call_isi (by rfl) Y.isinstance (by decide +kernel) (pa_cons (pv 0) (pa_cons (pe_bltn (v := .ty "str") (by rfl) Y.str (by decide +kernel) rfl) pa_nil)))))
 (pss_one (ps_ret pe_int))
 pss_nil)
 (pss_cons (ps_par3 (i := 1) (j := 2) (l := 3) (by rfl) sc_law_read.nd rfl rfl rfl (by decide) (by decide) (by decide) rfl rfl rfl (pa_cons (pe_lst pa_nil) (pa_cons (pe_lst pa_nil) (pa_cons (pe_lst pa_nil) pa_nil))) (by rfl))
 (pss_cons (ps_set (i := 4) sc_law_read.nd rfl (.inl rfl) (pe_split (pv 0) pe_str))
 (pss_cons (ps_for PassesOwn.never rfl (pi_range1 (by rfl) Y.range (pa_cons (pe_op op_sub (pe_callB call_len_seq (by rfl) Y.len PySem.boot_len (pa_cons (pv 4) pa_nil)) pe_int) pa_nil)) (pg_name (i := 5) sc_law_read.nd rfl (Or.inl rfl))
 (pss_one (ps_if (pt_not (pt_val (pe_callF G_law_line_right (hr.mono (by decide)) (by rfl) pass0 (pa_cons (pe_split (pe_ix ix_list (pv 4) (pv 5) (fun _ _ => rfl)) pe_str) (pa_cons (pv 1) (pa_cons (pv 2) (pa_cons (pv 3) pa_nil)))))))
 (pss_one (ps_ret (pe_op op_add (pv 5) pe_int)))
 pss_nil)))
 (pss_cons (ps_if (PW.pt (pw_or (pt_cmpR op_ne (pe_ix ix_list (pv 4) (pe_un un_neg pe_int) (fun _ _ => rfl)) pe_str (nomark _)) (pw_or1 (pt_cmpR op_ne (pe_callB call_len_seq (by rfl) Y.len PySem.boot_len (pa_cons (pv 3) pa_nil)) pe_int (nomark _)))))
 (pss_one (ps_ret (pe_callB call_len_seq (by rfl) Y.len PySem.boot_len (pa_cons (pv 4) pa_nil))))
 pss_nil)
 (pss_one (ps_ret (pe_tupZ (pa_cons (pv 1) (pa_cons (pv 2) pa_nil)))))))))), ?_⟩
    rcases strOr dn with ⟨x, rfl, rfl⟩ | ⟨nos, ty, t1, t2⟩
    rotate_left
    · refine ⟨v, rfl, v, _, _, _, false, rfl, .ty "str", t1, kit_ty t2, _, rfl, iteT ?_⟩
      refine q _ _ (Same.refl _) ?_
      rw [dueD_no nos]
      exact .int 0
    obtain ⟨lx, l60, ll⟩ := ov x rfl
    refine ⟨_, rfl, _, _, _, _, true, rfl, .ty "str", .base (.str _), kit_ty (by decide +kernel), _, rfl, iteF ?_⟩
    refine ⟨Nat.zero_le _, fun L1 n1 => ⟨Nat.zero_le _, fun L2 n2 => ⟨Nat.zero_le _, fun L3 n3 => ⟨_, _, _, rfl, ?_⟩⟩⟩⟩
    generalize hg : upd H L1 _ = Ha at n2 n3 ⊢
    obtain ⟨sa, ga⟩ := upd_new hg n1
    clear hg
    generalize hg : upd Ha L2 _ = Hb at n3 ⊢
    obtain ⟨sb, gb⟩ := upd_new hg n2
    clear hg
    generalize hg : upd Hb L3 _ = Hc
    obtain ⟨sc, gc⟩ := upd_new hg n3
    clear hg
    refine ⟨_, rfl, ⟨_, rfl⟩, _, _, rfl, rfl, rfl, le200 (by have := PyProof.Rows.split_le x "\n"; omega), fun Ll nl => ?_⟩
    generalize hg : upd Hc Ll _ = Hd
    obtain ⟨sd, gd⟩ := (show Same Hc Hd ∧ Hd Ll = some (.lst ((Txt.split x "\n").map V.str)) by rw [← hg]; exact ⟨same_upd nl, upd_same⟩)
    clear hg
    obtain ⟨ps, r, eps⟩ : ∃ ps r, Txt.split x "\n" = ps ++ [r] := by
      rcases List.eq_nil_or_concat (Txt.split x "\n") with h | ⟨ps, r, h⟩
      · exact absurd h (split_neL x)
      · exact ⟨ps, r, by rw [h, List.concat_eq_append]⟩
    rw [eps] at gd l60 ll
    rw [List.length_append] at l60
    have l60 : ps.length + 1 ≤ 60 := l60
    have tf := textF_eq eps
    have gaD : Hd L1 = some (.lst []) := sd _ _ (sc _ _ (sb _ _ ga))
    have gbD : Hd L2 = some (.lst []) := sd _ _ (sc _ _ gb)
    have gcD : Hd L3 = some (.lst []) := sd _ _ gc
    have n12 : L1 ≠ L2 := fun z => by rw [← z, ga] at n2; cases n2
    have n13 : L1 ≠ L3 := fun z => by rw [← z, sb _ _ ga] at n3; cases n3
    have n23 : L2 ≠ L3 := fun z => by rw [← z, gb] at n3; cases n3
    have nl1 : Ll ≠ L1 := fun z => by rw [z, sc _ _ (sb _ _ ga)] at nl; cases nl
    have nl2 : Ll ≠ L2 := fun z => by rw [z, sc _ _ gb] at nl; cases nl
    have nl3 : Ll ≠ L3 := fun z => by rw [z, gc] at nl; cases nl
    have sab := (sa.trans sb).trans sc
    have s0 : Same (upd H Ll (.lst ((ps ++ [r]).map V.str))) Hd := fun b o e => by
      by_cases c : b = Ll
      · subst c
        rw [upd_same] at e
        rw [gd]
        exact e
      · rw [upd_ne c] at e
        exact sd _ _ (sab _ _ e)
    have nlH : H Ll = none := by
      cases z : H Ll with
      | none => rfl
      | some o => rw [sab _ _ z] at nl; cases nl
    have sH : Same H (upd H Ll (.lst ((ps ++ [r]).map V.str))) := same_upd nlH
    generalize hH0 : upd H Ll (.lst ((ps ++ [r]).map V.str)) = H0 at s0 sH
    have e0 : H0 Ll = some (.lst ((ps ++ [r]).map V.str)) := by rw [← hH0, upd_same]
    have m1 : H L1 = none := n1
    have m2 : H L2 = none := same_none sa n2
    have m3 : H L3 = none := same_none (sa.trans sb) n3
    have ru0 : Ru H0 Hd L1 L2 L3 [] [] [] [] := by
      refine ⟨s0, gaD, ⟨[], gbD, .nil⟩, gcD, .nil, ?_, fun b hb => ?_⟩
      · simp [n12, n13, n23]
      · simp only [List.mem_cons, List.not_mem_nil, or_false] at hb
        rcases hb with rfl | rfl | rfl
        · rw [← hH0, upd_ne (Ne.symm nl1)]
          exact m1
        · rw [← hH0, upd_ne (Ne.symm nl2)]
          exact m2
        · rw [← hH0, upd_ne (Ne.symm nl3)]
          exact m3
    have pL : ((ps ++ [r]).map V.str).length = ps.length + 1 := by rw [List.length_map, List.length_append]; rfl
    refine ⟨_, rfl, Ll, _, rfl, .inl (SqL.of gd), _, _, rfl, rfl, ?_⟩
    have ej : ((((ps ++ [r]).map V.str).length : Nat) : Int) - 1 = (ps.length : Int) := by rw [pL]; omega
    have fin : ∀ {H' : Hp} {v' : V}, Same H0 H' → Dn K H' v' (dueD (.str x)) → Q v' H' := fun s z => q _ _ (sH.trans s) z
    refine ⟨(ps.length : Int), congrArg (fun z => [V.int z]) ej, by omega, by omega, for_it (walk_range (lo := 0) (n := ps.length)) (fun i σ H' => ∃ a5, σ = [some (.str x), some (.ref L1), some (.ref L2), some (.ref L3), some (.ref Ll), a5] ∧ ∃ as ns ks Ps, Ru H0 H' L1 L2 L3 as ns ks Ps ∧ Pt ns ks Ps ∧ Nv ns ks ∧ ns.length + ks.length = i ∧ readF [] [] ((ps.take i).map fun l => Txt.split l " ") = (ns, ks, true))
      ⟨none, rfl, [], [], [], [], ru0, Pt.nil, ⟨List.Pairwise.nil, (fun _ z => nomatch z)⟩, rfl, rfl⟩ (fun _ _ _ _ _ => trivial) ?_ ?_⟩
    · rintro i y σ H3 H4 hi ⟨a5, rfl, as, ns, ks, Ps, ru, pt, nv, ll2, rd⟩ ⟨rfl, rfl⟩
      obtain ⟨ln, hln⟩ : ∃ ln, ps[i]? = some ln := ⟨_, List.getElem?_eq_getElem hi⟩
      have el : ((ps ++ [r]).map V.str)[i]? = some (.str ln) := by rw [List.getElem?_map, List.getElem?_append_left hi, hln]; rfl
      obtain ⟨lnl, lnb, lnw⟩ := ll ln (List.mem_append_left _ (List.mem_of_getElem? hln))
      have hLl := ru.sm _ _ e0
      refine ⟨_, rfl, _, rfl, Ll, _, (i : Int), .str ln, rfl, congrArg V.int (by omega), SqL.of hLl, atI_nat el, ⟨_, rfl⟩, _, _, rfl, rfl, rfl, le200 (by omega), fun Wd nWd => ?_⟩
      generalize hg : upd H4 Wd _ = H5
      obtain ⟨s5, g5⟩ := (show Same H4 H5 ∧ H5 Wd = some (.lst ((Txt.split ln " ").map V.str)) by rw [← hg]; exact ⟨same_upd nWd, upd_same⟩)
      clear hg
      have nW : Wd ∉ L1 :: L2 :: L3 :: as := fun hm => by
        obtain ⟨us, e2, _⟩ := ru.ex
        simp only [List.mem_cons] at hm
        rcases hm with rfl | rfl | rfl | hm
        · rw [ru.h1] at nWd
          cases nWd
        · rw [e2] at nWd
          cases nWd
        · rw [ru.h3] at nWd
          cases nWd
        · obtain ⟨k, hk⟩ := List.getElem?_of_mem hm
          obtain ⟨R, _, hR⟩ := ru.ll.get hk
          rw [hR] at nWd
          cases nWd
      refine ⟨_, rfl, _, rfl, _, rfl, Wd, L1, L2, L3, H0, as, ns, ks, Ps, Txt.split ln " ", rfl, g5, nW, split_ne ln, ru.same s5, pt, nv, by omega, fun p hp => by have := lnw p hp; omega, fun e H6 s6 => ?_, fun ns' ks' e H6 as' Ps' ru' pt' => ?_⟩
      · refine ⟨_, rfl, iteT ?_⟩
        have dec : ps = ps.take i ++ ln :: ps.drop (i + 1) := by
          conv => lhs; rw [← List.take_append_drop i ps]
          rw [drop_at hln]
        have rdA : readF [] [] (ps.map fun l => Txt.split l " ") = (ns, ks, false) := by
          rw [dec, List.map_append, List.map_cons, readF_app rd]
          unfold readF
          rw [e]
        have lf := linesF_eq ps rdA
        rw [if_pos rfl] at lf
        rw [lf] at tf
        refine ⟨_, rfl, _, _, rfl, rfl, fin s6 ?_⟩
        rw [dueD_r tf]
        have := Dn.int (K := K) (H := H6) (((ns.length + ks.length + 1 : Nat) : Int))
        rw [show (((ns.length + ks.length + 1 : Nat) : Int)) = 0 + (i : Int) + 1 by omega] at this ⊢
        exact this
      · refine ⟨_, rfl, iteF ?_⟩
        obtain ⟨nv', le'⟩ := stepF_ok nv e
        refine ⟨_, rfl, as', ns', ks', Ps', ru', pt', nv', by omega, ?_⟩
        rw [take_last hln, List.map_append, List.map_cons, List.map_nil, readF_app rd]
        unfold readF
        rw [e]
        rfl
    · rintro σ H3 ⟨a5, rfl, as, ns, ks, Ps, ru, pt, nv, ll2, rd⟩
      rw [List.take_of_length_le (Nat.le_refl _)] at rd
      have lf := linesF_eq ps rd
      rw [if_neg (show ¬ (true = false) from fun z => by cases z)] at lf
      have one := pt.one (asc_nd nv.pw)
      have hLl := ru.sm _ _ e0
      have hL3 := ru.h3
      have asl := ru.ll.len
      have badR : textF x = .inr (ps.length + 1) → Dn K H3 (.int ((((ps ++ [r]).map V.str).length : Nat) : Int)) (dueD (.str x)) := fun e => by
        rw [dueD_r e, pL]
        exact .int _
      refine ⟨_, rfl, 1, rfl, Ll, _, -1, .str r, rfl, rfl, SqL.of hLl, last_is _ _, rfl, _, rfl, ?_⟩
      have lfc : linesF ps = .inr (ps.length + 1) ∨ (linesF ps = .inl (ns, ks) ∧ Ps.length = 1) := by
        by_cases c : ns = []
        · rw [if_pos c] at lf
          exact .inl lf
        · rw [if_neg c] at lf
          cases z : connF ns ks with
          | some y =>
            rw [z] at lf
            exact .inl lf
          | none =>
            rw [z] at lf
            exact .inr ⟨lf, one.mpr ⟨c, z⟩⟩
      by_cases er : r = ""
      rotate_left
      · rw [decide_eq_false (show ¬ V.str r = V.str "" from fun z => er (by injection z))]
        refine iteT (iteT ⟨_, rfl, Ll, _, rfl, .inl (SqL.of hLl), fin ru.sm (badR ?_)⟩)
        rw [tf]
        rcases lfc with e | ⟨e, _⟩
        · rw [e]
        · rw [e]
          dsimp only
          rw [if_neg er]
      rw [decide_eq_true (show V.str r = V.str "" by rw [er])]
      refine iteF ?_
      refine ⟨_, rfl, L3, _, rfl, .inl (SqL.of hL3), rfl, _, rfl, ?_⟩
      rw [List.length_map]
      by_cases ep : Ps.length = 1
      rotate_left
      · rw [decide_eq_false (show ¬ V.int (as.length : Int) = V.int 1 from fun z => ep (by injection z with z; omega))]
        refine iteT ⟨_, rfl, Ll, _, rfl, .inl (SqL.of hLl), fin ru.sm (badR ?_)⟩
        rw [tf]
        rcases lfc with e | ⟨_, e⟩
        · rw [e]
        · exact absurd e ep
      rw [decide_eq_true (show V.int (as.length : Int) = V.int 1 by rw [asl, ep]; rfl)]
      refine iteF ?_
      obtain ⟨us, hL2, pr⟩ := ru.ex
      have tt : textF x = .inl (ns, ks) := by
        rw [tf]
        rcases lfc with e | ⟨e, _⟩
        · obtain ⟨c1, c2⟩ := one.mp ep
          rw [if_neg c1, c2] at lf
          rw [lf] at e
          cases e
        · rw [e]
          dsimp only
          rw [if_pos er]
      refine ⟨_, rfl, _, rfl, (by show 2 ≤ sizeLine; decide), fun t o nt st zt => fin (ru.sm.trans st) ?_⟩
      rw [dueD_l tt]
      exact .tup zt (.cons (.lst (st _ _ ru.h1) (dns_tx _)) (.cons (.lst (st _ _ hL2) (pr.same st).dns) .nil))
end
end My

namespace My
open PySem PySem.Spec PyProof.Rows L2 Gy Xl Xs Xt Xo Xp
/-! ### what a right text says -/
theorem nextL_ok {ns : List Str} {ks : List (Str × Str)} {ps : List Str} {p : Str × Str} (h : nextL ns ks ps = some p) : ps = [("link" : Str), p.1, p.2] ∧ ltS p.1 p.2 = true ∧ lastL ks p = true ∧ p.1 ∈ ns ∧ p.2 ∈ ns ∧ rcB ks p.1 p.2 = false := by
  unfold nextL at h
  cases e : linkOf ps with
  | none =>
    rw [e] at h
    cases h
  | some y =>
    rw [e] at h
    have h : (if lastL ks y = true ∧ y.1 ∈ ns ∧ y.2 ∈ ns ∧ rcB ks y.1 y.2 = false then some y else none) = some p := h
    split at h
    · next c =>
      injection h with h
      subst h
      obtain ⟨a, b⟩ := linkOf_some e
      exact ⟨a, b, c.1, c.2.1, c.2.2.1, c.2.2.2⟩
    · cases h
theorem stepF_or {ns ns' : List Str} {ks ks' : List (Str × Str)} {ps : List Str} (h : stepF ns ks ps = some (ns', ks')) : (ks = [] ∧ ∃ x, nextH ns ps = some x ∧ ns' = ns ++ [x] ∧ ks' = ks) ∨ ∃ p, nextL ns ks ps = some p ∧ ns' = ns ∧ ks' = ks ++ [p] := by
  unfold stepF at h
  split at h
  · next x e =>
    injection h with h
    injection h with h1 h2
    by_cases c : ks = []
    · rw [if_pos c] at e
      exact .inl ⟨c, x, e, h1.symm, h2.symm⟩
    · rw [if_neg c] at e
      cases e
  · split at h
    · next p e =>
      injection h with h
      injection h with h1 h2
      exact .inr ⟨p, e, h1.symm, h2.symm⟩
    · cases h
theorem lexS_trans {a q p : Str × Str} (h1 : lexS a q = true) (h2 : lexS q p = true) : lexS a p = true := by
  have s := lexS_swo (α := Str × Str) (fun x => x)
  cases h : lexS a p with
  | true => rfl
  | false =>
    have n1 : lexS p q = false := s.asym _ _ h2
    have := s.tr _ _ _ n1 h
    rw [h1] at this
    cases this
/-- names and links read so far, in order -/
structure Gd (ns : List Str) (ks : List (Str × Str)) : Prop where
  nv : Nv ns ks
  kp : ks.Pairwise fun p q => lexS p q = true
  en : ∀ p ∈ ks, ltS p.1 p.2 = true ∧ p.1 ∈ ns ∧ p.2 ∈ ns
  pt : ∃ Ps, Pt ns ks Ps
theorem Gd.nil : Gd [] [] := ⟨⟨List.Pairwise.nil, (fun _ z => nomatch z)⟩, List.Pairwise.nil, (fun _ z => nomatch z), [], Pt.nil⟩
theorem Gd.step {ns ns' : List Str} {ks ks' : List (Str × Str)} {ps : List Str} (g : Gd ns ks) (h : stepF ns ks ps = some (ns', ks')) : Gd ns' ks' := by
  have nv' := (stepF_ok g.nv h).1
  obtain ⟨Ps, pt⟩ := g.pt
  rcases stepF_or h with ⟨rfl, x, e, rfl, rfl⟩ | ⟨p, e, rfl, rfl⟩
  · obtain ⟨_, _, la⟩ := nextH_ok e
    refine ⟨nv', List.Pairwise.nil, (fun _ z => nomatch z), _, pt.host fun mx => ?_⟩
    have := lastH_lt g.nv.pw la x mx
    rw [ltS_irr] at this
    cases this
  · obtain ⟨_, lt, la, m1, m2, r⟩ := nextL_ok e
    obtain ⟨i, Pi, hi, mi⟩ := pt.at m1
    obtain ⟨j, Pj, hj, mj⟩ := pt.at m2
    have nij : i ≠ j := fun z => by
      subst z
      rw [hi] at hj
      injection hj with hj
      rw [pt.rcB hi hi mi (by rw [hj]; exact mj), decide_eq_true rfl] at r
      cases r
    refine ⟨nv', ?_, fun q hq => ?_, _, pt.link hi hj nij mi mj⟩
    · refine List.pairwise_append.mpr ⟨g.kp, List.pairwise_singleton _ _, fun a ha b hb => ?_⟩
      rw [List.mem_singleton.mp hb]
      rcases List.eq_nil_or_concat ks with rfl | ⟨qs, q, rfl⟩
      · cases ha
      · rw [List.concat_eq_append] at ha la
        have kp := g.kp
        rw [List.concat_eq_append] at kp
        rw [lastL_app] at la
        rcases List.mem_append.mp ha with m | m
        · exact lexS_trans ((List.pairwise_append.mp kp).2.2 a m q List.mem_cons_self) la
        · rw [List.mem_singleton.mp m]
          exact la
    · rcases List.mem_append.mp hq with m | m
      · exact g.en q m
      · rw [List.mem_singleton.mp m]
        exact ⟨lt, m1, m2⟩
def hostP (x : Str) : List Str := [("host" : Str), x]
def linkP (p : Str × Str) : List Str := [("link" : Str), p.1, p.2]
theorem readF_all : ∀ {r : List (List Str)} {ns ns' : List Str} {ks ks' : List (Str × Str)}, Gd ns ks → readF ns ks r = (ns', ks', true) → Gd ns' ks' ∧ ∃ hs2 ks2, ns' = ns ++ hs2 ∧ ks' = ks ++ ks2 ∧ r = hs2.map hostP ++ ks2.map linkP ∧ (ks ≠ [] → hs2 = [])
  | [], ns, ns', ks, ks', g, h => by
    have h : (ns, ks, true) = (ns', ks', true) := h
    injection h with h1 h2
    injection h2 with h2
    subst h1
    subst h2
    exact ⟨g, [], [], by rw [List.append_nil], by rw [List.append_nil], rfl, fun _ => rfl⟩
  | ps :: r, ns, ns', ks, ks', g, h => by
    unfold readF at h
    cases e : stepF ns ks ps with
    | none =>
      rw [e] at h
      have h : (ns, ks, false) = (ns', ks', true) := h
      injection h with _ h
      injection h with _ h
      cases h
    | some x =>
      rw [e] at h
      obtain ⟨ms, ls⟩ := x
      obtain ⟨g', hs2, ks2, e1, e2, e3, e4⟩ := readF_all (g.step e) h
      refine ⟨g', ?_⟩
      rcases stepF_or e with ⟨rfl, x, en, rfl, rfl⟩ | ⟨p, en, rfl, rfl⟩
      · obtain ⟨ep, _, _⟩ := nextH_ok en
        refine ⟨x :: hs2, ks2, by rw [e1, List.append_assoc]; rfl, e2, ?_, fun z => absurd rfl z⟩
        rw [e3, ep]
        rfl
      · obtain ⟨ep, _⟩ := nextL_ok en
        have h0 : hs2 = [] := e4 (by simp)
        subst h0
        refine ⟨[], p :: ks2, e1, by rw [e2, List.append_assoc]; rfl, ?_, fun _ => rfl⟩
        rw [e3, ep]
        rfl
theorem join_sp (l : Str) : Txt.join " " (Txt.split l " ") = l := by
  rw [TL.join_eq]
  exact StrLaws.join_split ..
theorem join_ln (l : Str) : Txt.join "\n" (Txt.split l "\n") = l := by
  rw [TL.join_eq]
  exact StrLaws.join_split ..
/-- what a text that is right says -/
structure Rt (x : Str) (hs : List Str) (ks : List (Str × Str)) : Prop where
  tk : Tk hs ks
  so : srt hs = hs
  lk : lks (srt hs) (srtF ks) = ks
  tx : txT hs ks = x
  nm : ∀ y ∈ hs, Nm y
  ln : hs.length + ks.length ≤ (Txt.split x "\n").length
theorem right_text {x : Str} {hs : List Str} {ks : List (Str × Str)} (h : textF x = .inl (hs, ks)) : Rt x hs ks := by
  obtain ⟨ps, r, eps⟩ : ∃ ps r, Txt.split x "\n" = ps ++ [r] := by
    rcases List.eq_nil_or_concat (Txt.split x "\n") with h | ⟨ps, r, h⟩
    · exact absurd h (split_neL x)
    · exact ⟨ps, r, by rw [h, List.concat_eq_append]⟩
  rw [textF_eq eps] at h
  cases el : linesF ps with
  | inr n =>
    rw [el] at h
    cases h
  | inl t =>
    rw [el] at h
    have h : (if r = "" then Sum.inl t else Sum.inr (ps.length + 1)) = Sum.inl (hs, ks) := h
    by_cases er : r = ""
    rotate_left
    · rw [if_neg er] at h
      cases h
    rw [if_pos er] at h
    injection h with h
    subst h
    cases er2 : readF [] [] (ps.map fun l => Txt.split l " ") with
    | mk ns z =>
    obtain ⟨ks', b⟩ := z
    rw [linesF_eq ps er2] at el
    cases b with
    | false =>
      rw [if_pos rfl] at el
      cases el
    | true =>
      rw [if_neg (show ¬ (true = false) from fun z => by cases z)] at el
      by_cases c : ns = []
      · rw [if_pos c] at el
        cases el
      rw [if_neg c] at el
      cases z : connF ns ks' with
      | some y =>
        rw [z] at el
        cases el
      | none =>
        rw [z] at el
        injection el with el
        injection el with e1 e2
        subst e1
        subst e2
        obtain ⟨g, hs2, ks2, e1, e2, e3, _⟩ := readF_all Gd.nil er2
        rw [List.nil_append] at e1 e2
        subst e1
        subst e2
        obtain ⟨Ps, pt⟩ := g.pt
        have nd := asc_nd g.nv.pw
        have l1 := (pt.one nd).mpr ⟨c, z⟩
        have pl := pt.len
        have tk : Tk ns ks' := Tk.of_len nd g.nv.nm c (fun p hp => (g.en p hp).2) (conn_all z) (by omega)
        have so := strict_srt g.nv.pw
        have nrm : ks'.map norm = ks' := by
          conv => rhs; rw [← List.map_id ks']
          refine List.map_congr_left fun p hp => ?_
          have lt := (g.en p hp).1
          unfold norm
          rw [if_neg fun w => List.lt_irrefl _ (List.lt_trans (of_decide_eq_true lt) w)]
          rfl
        have lk : lks (srt ns) (srtF ks') = ks' := (lks_one tk (by rw [nrm]) (g.kp.imp fun {a b} h => lex_asym h)).symm
        have lp : ps = ns.map hostL ++ ks'.map linkL := by
          have : ps = (ps.map fun l => Txt.split l " ").map (Txt.join " ") := by
            rw [List.map_map]
            conv => lhs; rw [← List.map_id ps]
            exact List.map_congr_left fun l _ => (join_sp l).symm
          rw [e3, List.map_append, List.map_map, List.map_map] at this
          have h1 : ns.map (Txt.join " " ∘ hostP) = ns.map hostL := List.map_congr_left fun y _ => (host_join y).symm
          have h2 : ks'.map (Txt.join " " ∘ linkP) = ks'.map linkL := List.map_congr_left fun p _ => (link_join p).symm
          rw [h1, h2] at this
          exact this
        refine ⟨tk, so, lk, ?_, g.nv.nm, by rw [eps, lp, List.length_append, List.length_append, List.length_map, List.length_map]; omega⟩
        unfold txT linesT
        rw [so] at lk ⊢
        rw [lk, ← lp, join_nl, ← er, ← eps, join_ln]
/-! ### what is told is shown -/
theorem tam_pr {p : Str × Str} (h1 : Nm p.1) (h2 : Nm p.2) : tam (prD p) = true ∧ (prD p).depth ≤ 1 := by
  refine ⟨?_, ?_⟩
  · show (decide (2 ≤ 14) && (tam (.str p.1) && (tam (.str p.2) && true))) = true
    rw [tam_nm h1, tam_nm h2]
    rfl
  · show max 0 (max 0 0) + 1 ≤ 1
    decide
theorem tams_prs : ∀ {ks : List (Str × Str)}, (∀ p ∈ ks, Nm p.1 ∧ Nm p.2) → tams (ks.map prD) = true
  | [], _ => rfl
  | p :: ks, h => by
    show (tam (prD p) && tams (ks.map prD)) = true
    rw [(tam_pr (h p List.mem_cons_self).1 (h p List.mem_cons_self).2).1, tams_prs fun q hq => h q (List.mem_cons_of_mem _ hq)]
    rfl
def treeD (hs : List Str) (ks : List (Str × Str)) : PyData := .tuple [.list (hs.map PyData.str), .list (ks.map prD)]
theorem tree_fits {hs : List Str} {ks : List (Str × Str)} (h1 : ∀ x ∈ hs, Nm x) (h2 : ∀ p ∈ ks, Nm p.1 ∧ Nm p.2) (l1 : hs.length ≤ 60) (l2 : ks.length ≤ 60) : Fits (treeD hs ks) ∧ PyData.strOk (treeD hs ks).shown = true := by
  obtain ⟨a1, b1, c1⟩ := tams.parts (tams_strs h1) (n := 0) (Nat.le_of_eq (deep_strs hs))
  obtain ⟨a2, b2, c2⟩ := tams.parts (tams_prs h2) (n := 1) (dep_prs ks)
  rw [List.length_map] at c1 c2
  have c1' : PyData.weightAll (hs.map PyData.str) ≤ 60 * 13 := Nat.le_trans c1 (Nat.mul_le_mul_right _ l1)
  have c2' : PyData.weightAll (ks.map prD) ≤ 60 * 183 := Nat.le_trans c2 (Nat.mul_le_mul_right _ l2)
  refine ⟨⟨?_, ?_, PyData.shown_fits (B := 13) (by decide) (by decide) ?_ ?_⟩, ?_⟩
  · show (PyData.showableAll (hs.map PyData.str) && (PyData.showableAll (ks.map prD) && true)) = true
    rw [a1, a2]
    rfl
  · have d1 := deep_strs hs
    have d2 := dep_prs ks
    show max (PyData.depthAll (hs.map PyData.str) + 1) (max (PyData.depthAll (ks.map prD) + 1) 0) + 1 ≤ 60
    omega
  · show (PyData.leavesShortAll 13 (hs.map PyData.str) && (PyData.leavesShortAll 13 (ks.map prD) && true)) = true
    rw [b1, b2]
    rfl
  · show PyData.weightAll (hs.map PyData.str) + 1 + (PyData.weightAll (ks.map prD) + 1 + 0) ≤ 2 ^ 20
    have : (12000 : Nat) ≤ 2 ^ 20 := by decide
    omega
  · have e1 : PyData.strOk (PyData.list (hs.map PyData.str)).shown = true := by
      simp only [PyData.shown]
      rw [listText_eq_join]
      exact so_app (so_app (so_lit _) (so_join (so_lit _) (tams.so (tams_strs h1)))) (so_lit _)
    have e2 : PyData.strOk (PyData.list (ks.map prD)).shown = true := by
      simp only [PyData.shown]
      rw [listText_eq_join]
      exact so_app (so_app (so_lit _) (so_join (so_lit _) (tams.so (tams_prs h2)))) (so_lit _)
    have es : (treeD hs ks).shown = tupleText [(PyData.list (hs.map PyData.str)).shown, (PyData.list (ks.map prD)).shown] := by
      unfold treeD
      simp only [PyData.shown, PyData.shownAll]
    rw [es]
    unfold tupleText
    refine so_app (so_app (so_lit _) (so_join (so_lit _) fun t ht => ?_)) (so_lit _)
    simp only [List.mem_cons, List.not_mem_nil, or_false] at ht
    rcases ht with rfl | rfl
    · exact e1
    · exact e2
end My

namespace My
open PySem PySem.Spec PyProof.Rows L2 Gy Xl Xs Xt Xo Xp
structure X92 (K : PySem.W.Frag) (I N L B : Addr) : Prop where
  xI : XCl K I
  mII : PySem.W.exmOne K (.ref I) (.ref I) = some true
  kIN : PySem.W.kitOne K (.ref I) (.ref N) = some false
  kIL : PySem.W.kitOne K (.ref I) (.ref L) = some false
  kIB : PySem.W.kitOne K (.ref I) (.ref B) = some true
  kIV : PySem.W.kitOne K (.ref I) (.type "ValueError") = some true
  fl : PySem.W.findIn K (.ref I) "line" = some none
theorem xf_of {K : PySem.W.Frag} {C : Addr} (x : XCl K C) : XfC K C := ⟨x.ga, x.gg, x.ex, x.hd⟩
theorem any_two {K : PySem.W.Frag} {t S T : Value} (h1 : PySem.W.kitOne K t S = some false) (h2 : PySem.W.kitOne K t T = some false) : PySem.W.kitAny K t [S, T] = some false := by
  unfold PySem.W.kitAny
  rw [h1]
  unfold PySem.W.kitAny
  rw [h2]
  rfl
theorem int_fits {n : Nat} (h : n < 1000) : Fits (.int (n : Int)) ∧ PyData.strOk (PyData.int (n : Int)).shown = true := by
  have t : tam (.int (n : Int)) = true := decide_eq_true (by omega)
  exact ⟨tam.fits t (by show 0 ≤ 4; decide), tam.so t⟩
section
variable {P : Program} {w : World} {K : PySem.W.Frag} {mg : Str → Option Value} {base : Heap} {H : Hp} {C CI CL N L B : Addr}
def spTold (K : PySem.W.Frag) : Sp := fun vs H Q _ => ∃ (v : V) (d : PyData), vs = [v] ∧ Dn K H v d ∧ OkV d ∧ ∀ H', Same H H' → Q (.str (dueD d).shown) H'
theorem textF_le {x : Str} {n : Nat} (h : textF x = .inr n) : n ≤ (Txt.split x "\n").length := by
  obtain ⟨ps, r, eps⟩ : ∃ ps r, Txt.split x "\n" = ps ++ [r] := by
    rcases List.eq_nil_or_concat (Txt.split x "\n") with h | ⟨ps, r, h⟩
    · exact absurd h (split_neL x)
    · exact ⟨ps, r, by rw [h, List.concat_eq_append]⟩
  rw [textF_eq eps] at h
  rw [eps, List.length_append]
  show n ≤ ps.length + 1
  cases el : linesF ps with
  | inl t =>
    rw [el] at h
    have h : (if r = "" then Sum.inl t else Sum.inr (ps.length + 1)) = Sum.inr n := h
    split at h
    · cases h
    · injection h with h
      omega
  | inr m =>
    rw [el] at h
    injection h with h
    subst h
    unfold linesF at el
    dsimp only at el
    have l1 := (leadH_ok (ps := ps.map fun l => Txt.split l " ") (hs := []) List.Pairwise.nil (fun _ z => nomatch z)).2.2
    rw [List.length_map, List.length_nil, Nat.zero_add] at l1
    generalize leadH [] (ps.map fun l => Txt.split l " ") = hs at el l1
    have l2 : (fl hs ps).2 = false → hs.length + (fl hs ps).1.length + 1 ≤ ps.length + 1 := fun _ => by
      have : ∀ (qs : List (List Str)) (ls : List (Str × Str)), (follL hs ls qs).1.length ≤ ls.length + qs.length := by
        intro qs
        induction qs with
        | nil => exact fun ls => Nat.le_refl _
        | cons q qs ih =>
          intro ls
          unfold follL
          cases nextL hs ls q with
          | none => exact Nat.le_add_right _ _
          | some p =>
            have := ih (ls ++ [p])
            rw [List.length_append] at this
            rw [List.length_cons]
            have this : _ ≤ ls.length + 1 + qs.length := this
            show (follL hs (ls ++ [p]) qs).1.length ≤ _
            omega
      have t := this ((ps.drop hs.length).map fun l => Txt.split l " ") []
      rw [List.length_map, List.length_drop, List.length_nil] at t
      have t : (fl hs ps).1.length ≤ 0 + (ps.length - hs.length) := t
      omega
    split at el
    · next c =>
      injection el with el
      have := l2 c
      omega
    · split at el
      · injection el with el
        omega
      · split at el
        · injection el with el
          omega
        · cases el
theorem ok_told {f : Addr} {fd : FuncData} (F : Fun K "_law_told" "_law_told" s_law_told f fd) (Y : Bn mg) (gI : mg "InvalidLine" = some (.ref CL)) (gN : mg "InvalidText" = some (.ref N)) (gL : mg "InvalidTree" = some (.ref L)) (gB : mg "RelinkTreeError" = some (.ref B)) (gV : mg "ValueError" = none)
    (X : X92 K CL N L B) (G : Cg K) (T : Tc K mg C) (M_links : Fm P w K mg base CX0 1 C "links" ["self"] (spLinks C)) (M_hosts : Fm P w K mg base CX0 1 C "hosts" ["self"] (spHosts C)) (G_tree_text : Fk P w K mg base CX0 2 "tree_text" ["tree"] (spTT C))
    (G_parse_tree : Fk P w K mg base (L2.CX P w) 10 "parse_tree" ["text"] (spPT K C CL)) : FnG P w K mg base CX0 11 f fd ["_law_text"] (spTold K) := by
  obtain ⟨_, _, MM_links, MB_links, MF_links⟩ := M_links.ex
  obtain ⟨_, _, MM_hosts, MB_hosts, MF_hosts⟩ := M_hosts.ex
  refine fun_g0 F sc_law_told (fun {vs H Q E} h => ?_) (fun cdv A outer s H vs Q E gd hr h => ?_)
  · obtain ⟨v, d, rfl, _⟩ := h
    rfl
  · obtain ⟨v, d, rfl, dn, ov, q⟩ := h
    have hu70 := Room.units70 hr
    refine ⟨_, pss_cons (ps_set (i := 1) sc_law_told.nd rfl (.inl rfl) pe_str)
      (pss_cons (ps_try_manyAs (i := 3) (n := "e") rfl rfl sc_law_told.nd rfl rfl takes0
        (fun W pn xe tk _ => pss_cons (ps_set (i := 2) sc_law_told.nd rfl (.inl rfl) (pe_callSF G_parse_tree (hr.mono (by decide)) (by rfl) (fun σ => passAt tk σ) (pa_cons (pv 0) pa_nil)))
          (pss_one (ps_set (i := 1) sc_law_told.nd rfl (.inl rfl) (pe_ifExp (pt_cmpR op_eq (pe_callF G_tree_text (hr.mono (by decide)) (by rfl) pass0 (pa_cons (pv 2) pa_nil)) (pv 0) (nomark _))
            (pe_callB (show CallR _ (.builtin "repr") (rReprN K) from repr_dn gd hu70) (by rfl) Y.repr (by decide +kernel) (pa_cons (pe_tupZ (pa_cons (pe_meth0 (pv 2) T.cl MM_hosts MF_hosts (hr.mono (by decide)) MB_hosts .nil pass0) (pa_cons (pe_meth0 (pv 2) T.cl MM_links MF_links (hr.mono (by decide)) MB_links .nil pass0) pa_nil))) pa_nil))
            pe_str))))
        (.cons ⟨rfl, by decide, .inl gI⟩ (fun a oe cls d pn hz hf => pss_cons
          (ps_set (i := 4) sc_law_told.nd rfl (.inl rfl) (pe_callB (show CallR _ (.builtin "isinstance") (rIsT K a cls d) from call_isT G.cg G.ct hz hf) (by rfl) Y.isinstance (by decide +kernel) (pa_cons (pv 3) (pa_cons (pe_tupZ (pa_cons (pe_glob (v := .ref N) (by rfl) gN rfl) (pa_cons (pe_glob (v := .ref L) (by rfl) gL rfl) pa_nil))) pa_nil))))
          (pss_one (ps_set (i := 1) sc_law_told.nd rfl (.inl rfl) (pe_ifExp (PW.pt (pw_and (pt_val (pe_callB (show CallR _ (.builtin "isinstance") (rIsS K a cls d) from call_isS G.cg G.ct hz hf) (by rfl) Y.isinstance (by decide +kernel) (pa_cons (pv 3) (pa_cons (pe_glob (v := .ref B) (by rfl) gB rfl) pa_nil))))
              (pw_and (pt_val (pe_callB (show CallR _ (.builtin "isinstance") (rIsS K a cls d) from call_isS G.cg G.ct hz hf) (by rfl) Y.isinstance (by decide +kernel) (pa_cons (pv 3) (pa_cons (pe_bltn (v := .ty "ValueError") (by rfl) gV (by decide +kernel) rfl) pa_nil))))
              (pw_and1 (pt_not (pt_val (pv 4)))))))
            (pe_callB (show CallR _ (.builtin "repr") (rReprN K) from repr_dn gd hu70) (by rfl) Y.repr (by decide +kernel) (pa_cons (pe_xf (xf_of X.xI) X.fl hz hf (pv 3)) pa_nil))
            (pv 1))))) .nil))
      (pss_one (ps_ret (pv 1)))), ?_⟩
    refine ⟨_, rfl, v, d, rfl, dn, fun nos H2 dx s2 e2 => ?_, fun x ex => ?_⟩
    · have ed : dueD d = .int 0 := dueD_no nos
      have ft := (int_fits (n := 0) (by decide)).1
      refine ⟨true, X.mII, fun _ a na => ?_, fun z => nomatch z⟩
      refine ⟨_, rfl, (by show 2 ≤ sizeLine; decide), fun t o n s3 z3 => ?_⟩
      generalize upd H2 t o = H3 at s3 z3 ⊢
      have e3 := s3 _ _ e2
      refine ⟨CL, dx, t, _, _, false, rfl, rfl, rfl, e3, X.xI, z3, fun its rv => ?_, ?_⟩
      · obtain ⟨u1, u2, rfl, r1, r2⟩ := vals2 rv
        cases r1
        cases r2
        exact any_two X.kIN X.kIL
      refine ⟨_, rfl, CL, dx, _, .ref B, .ref B, true, rfl, rfl, rfl, e3, X.xI, .own B, X.kIB, _, rfl, iteT ?_⟩
      refine ⟨_, rfl, CL, dx, _, .ty "ValueError", .type "ValueError", true, rfl, rfl, rfl, e3, X.xI, .ty _, X.kIV, _, rfl, iteT ?_⟩
      refine ⟨_, rfl, _, rfl, iteT ?_⟩
      refine ⟨_, rfl, rfl, rfl, dx, _, _, rfl, e3, rfl, _, _, rfl, .int _, ft.1, ft.2.1, ft.2.2, ?_⟩
      have qq := q _ (s2.trans s3)
      rw [ed] at qq
      exact ⟨_, rfl, qq⟩
    · obtain ⟨lx, l60, ll⟩ := ov x ex
      subst ex
      refine ⟨lx, l60, ll, fun n hn H2 dx s2 e2 => ?_, fun hs ks hk H1 p s1 t1 => ?_⟩
      · have ed : dueD (.str x) = .int (n : Int) := dueD_r hn
        have ft := (int_fits (n := n) (by have := textF_le hn; omega)).1
        refine ⟨true, X.mII, fun _ a na => ?_, fun z => nomatch z⟩
        refine ⟨_, rfl, (by show 2 ≤ sizeLine; decide), fun t o n s3 z3 => ?_⟩
        generalize upd H2 t o = H3 at s3 z3 ⊢
        have e3 := s3 _ _ e2
        refine ⟨CL, dx, t, _, _, false, rfl, rfl, rfl, e3, X.xI, z3, fun its rv => ?_, ?_⟩
        · obtain ⟨u1, u2, rfl, r1, r2⟩ := vals2 rv
          cases r1
          cases r2
          exact any_two X.kIN X.kIL
        refine ⟨_, rfl, CL, dx, _, .ref B, .ref B, true, rfl, rfl, rfl, e3, X.xI, .own B, X.kIB, _, rfl, iteT ?_⟩
        refine ⟨_, rfl, CL, dx, _, .ty "ValueError", .type "ValueError", true, rfl, rfl, rfl, e3, X.xI, .ty _, X.kIV, _, rfl, iteT ?_⟩
        refine ⟨_, rfl, _, rfl, iteT ?_⟩
        refine ⟨_, rfl, rfl, rfl, dx, _, _, rfl, e3, rfl, _, _, rfl, .int _, ft.1, ft.2.1, ft.2.2, ?_⟩
        have qq := q _ (s2.trans s3)
        rw [ed] at qq
        exact ⟨_, rfl, qq⟩
      · have r := right_text hk
        have ed : dueD (.str x) = treeD hs ks := dueD_l hk
        have rl := r.ln
        have nmk : ∀ p ∈ ks, Nm p.1 ∧ Nm p.2 := fun p hp => ⟨r.nm _ (r.tk.en p hp).1, r.nm _ (r.tk.en p hp).2⟩
        have ft := (tree_fits r.nm nmk (by omega) (by omega)).1
        refine ⟨_, rfl, p, hs, ks, rfl, t1, r.tk, by omega, by omega, fun H2 s2 => ?_⟩
        cases dn
        refine ⟨_, rfl, rfl, _, rfl, ?_⟩
        rw [decide_eq_true (show V.str (txT hs ks) = V.str x by rw [r.tx])]
        refine iteT ?_
        have t2 := t1.same s2
        have s02 := s1.trans s2
        obtain ⟨_, dx, _, hp, _⟩ := t2.ex
        refine ⟨_, rfl, p, dx, _, rfl, hp, fld_no (by decide +kernel), p, srt hs, srtF ks, rfl, t2, fun H3 L3 s3 nL3 eL3 => ?_⟩
        refine ⟨_, rfl, p, dx, _, rfl, s3 _ _ hp, fld_no (by decide +kernel), p, srt hs, srtF ks, rfl, t2.same s3, srtF_in r.tk, by rw [r.lk]; omega, fun H4 L4 us s4 nL4 eL4 pr => ?_⟩
        refine ⟨(by show 2 ≤ sizeLine; decide), fun t o nt st zt => ?_⟩
        rw [r.lk] at pr
        rw [r.so] at eL3
        have dt : Dn K _ (.ref t) (treeD hs ks) := .tup zt (.cons (.lst (st _ _ (s4 _ _ eL3)) (dns_tx _)) (.cons (.lst (st _ _ eL4) (pr.same st).dns) .nil))
        refine ⟨_, treeD hs ks, rfl, dt, ft.1, ft.2.1, ft.2.2, ?_⟩
        have qq := q _ ((s02.trans s3).trans (s4.trans st))
        rw [ed] at qq
        exact ⟨_, rfl, qq⟩
end
end My

namespace My
open PySem PySem.Spec PyProof.Rows L2 Gy Xl Xs Xt Xo Xp
/-! ### how long a spoilt text may be -/
def cn (c : Nat) (x : Str) : Nat := (TL.tl x).count c
theorem cn_app (c : Nat) (x y : Str) : cn c (x ++ y) = cn c x + cn c y := by
  unfold cn
  rw [TL.tl_append, List.count_append]
def ms (f : Str → Nat) (ls : List Str) : Nat := (ls.map f).sum
theorem ms_app (f : Str → Nat) (a b : List Str) : ms f (a ++ b) = ms f a + ms f b := by
  unfold ms
  rw [List.map_append, List.sum_append]
theorem ms_cons (f : Str → Nat) (x : Str) (b : List Str) : ms f (x :: b) = f x + ms f b := by
  unfold ms
  rw [List.map_cons, List.sum_cons]
theorem ms_nil (f : Str → Nat) : ms f [] = 0 := rfl
theorem ms_cut (f : Str → Nat) (ls : List Str) (i : Nat) : ms f (ls.take i) + ms f (ls.drop i) = ms f ls := by
  rw [← ms_app, List.take_append_drop]
theorem ms_at (f : Str → Nat) {ls : List Str} {i : Nat} {x : Str} (h : ls[i]? = some x) : ms f (ls.take i) + f x + ms f (ls.drop (i + 1)) = ms f ls := by
  have := ms_cut f ls i
  rw [drop_at h, ms_cons] at this
  omega
theorem ms_mem (f : Str → Nat) {ls : List Str} {x : Str} (h : x ∈ ls) : f x ≤ ms f ls := by
  obtain ⟨i, hi⟩ := List.getElem?_of_mem h
  have := ms_at f hi
  omega
theorem ms_set (f : Str → Nat) {ls : List Str} {i : Nat} {x : Str} (h : ls[i]? = some x) (y : Str) : ms f (ls.set i y) + f x = ms f ls + f y := by
  have il := (List.getElem?_eq_some_iff.mp h).1
  rw [List.set_eq_take_append_cons_drop, if_pos il, ms_app, ms_cons]
  have := ms_at f h
  omega
theorem join_tl (c : Nat) (y : Str) : ∀ {ls : List Str}, ls ≠ [] → cn c (Str.join y ls) + cn c y = ms (cn c) ls + ls.length * cn c y
  | [x], _ => by
    show cn c x + cn c y = ms (cn c) [x] + 1 * cn c y
    rw [ms_cons, ms_nil]
    omega
  | x :: z :: r, _ => by
    have ih := join_tl c y (ls := z :: r) (by simp)
    show cn c (x ++ y ++ Str.join y (z :: r)) + cn c y = _
    rw [cn_app, cn_app, ms_cons, List.length_cons (a := x), Nat.add_mul, Nat.one_mul]
    omega
theorem join_ln2 (y : Str) : ∀ {ls : List Str}, ls ≠ [] → (Str.join y ls).length + y.length = ms Str.length ls + ls.length * y.length
  | [x], _ => by
    show x.length + y.length = ms Str.length [x] + 1 * y.length
    rw [ms_cons, ms_nil]
    omega
  | x :: z :: r, _ => by
    have ih := join_ln2 y (ls := z :: r) (by simp)
    show (x ++ y ++ Str.join y (z :: r)).length + y.length = _
    rw [len_app, len_app, ms_cons, List.length_cons (a := x), Nat.add_mul, Nat.one_mul]
    omega
theorem spl_len {s : Nat} : ∀ (l acc : List Nat), (TL.spl [s] 0 acc l).length = l.count s + 1
  | [], acc => by
    rw [TL.spl_nil]
    rfl
  | c :: r, acc => by
    cases e : TL.pre [s] (c :: r) with
    | true =>
      rw [TL.spl_hit e, List.length_cons]
      have hc : s = c := by
        have h : ([c] == [s]) = true := e
        rw [beq_iff_eq] at h
        injection h with h
        exact h.symm
      subst hc
      rw [List.count_cons_self]
      show (TL.spl [s] 0 [] r).length + 1 = _
      rw [spl_len r []]
    | false =>
      rw [TL.spl_miss e, spl_len r]
      have hc : c ≠ s := fun z => by
        subst z
        have : ([c] == [c]) = false := e
        simp at this
      rw [List.count_cons_of_ne hc]
theorem parts_len (x : Str) : (Txt.split x " ").length = cn 32 x + 1 := by
  have e := TL.split_spl x " " (by decide +kernel) (TL.kind_ok (by decide +kernel))
  have := congrArg List.length e
  rw [List.length_map] at this
  rw [this]
  exact spl_len (s := 32) (TL.tl x) []
theorem lines_len2 (x : Str) : (Txt.split x "\n").length = cn 10 x + 1 := by
  have e := TL.split_spl x "\n" (by decide +kernel) (TL.kind_ok (by decide +kernel))
  have := congrArg List.length e
  rw [List.length_map] at this
  rw [this]
  exact spl_len (s := 10) (TL.tl x) []
/-- without a newline -/
def NF (x : Str) : Prop := cn 10 x = 0
theorem nf_line {x l : Str} (h : l ∈ Txt.split x "\n") : NF l := List.count_eq_zero.mpr (split_freeL h)
theorem nf_sp {x l : Str} (h : l ∈ Txt.split x " ") : cn 32 l = 0 := List.count_eq_zero.mpr (split_free h)
theorem nf_sub {x l : Str} (n : NF x) (h : l ∈ Txt.split x " ") : NF l := by
  refine List.count_eq_zero.mpr fun z => ?_
  exact List.count_eq_zero.mp n (part_sub h _ z)
/-- of signs below 128 -/
def As (x : Str) : Prop := ∀ c ∈ TL.tl x, c < 128
theorem as_app {x y : Str} (h : As x) (k : As y) : As (x ++ y) := fun c hc => by
  rw [TL.tl_append, List.mem_append] at hc
  exact hc.elim (h c) (k c)
theorem as_part {x y l : Str} (h : As x) (m : l ∈ Txt.split x y) : As l := fun c hc => h c (part_sub m c hc)
theorem as_join {y : Str} (hy : As y) : ∀ {xs : List Str}, (∀ x ∈ xs, As x) → As (Str.join y xs)
  | [], _ => fun c hc => by cases hc
  | [x], h => h x List.mem_cons_self
  | x :: z :: r, h => as_app (as_app (h x List.mem_cons_self) hy) (as_join hy fun w hw => h w (List.mem_cons_of_mem _ hw))
/-- lines behind a spoiling -/
structure Mz (ls ls' : List Str) : Prop where
  nf : ∀ l ∈ ls', NF l
  le : ls'.length ≤ ls.length + 1
  m1 : ms Str.length ls' ≤ 2 * ms Str.length ls + 30
  m2 : ms (cn 32) ls' ≤ 2 * ms (cn 32) ls + 4
  as : (∀ l ∈ ls, As l) → ∀ l ∈ ls', As l
/-- lines before and behind the place stand, others are in between -/
theorem Mz.mk2 {ls : List Str} {i j : Nat} {x : Str} {mid : List Str} (nf : ∀ l ∈ ls, NF l) (h : ls[i]? = some x) (hj : j = i ∨ j = i + 1) (l1 : mid.length ≤ 1) (n1 : ∀ l ∈ mid, NF l) (m1 : ms Str.length mid ≤ 2 * x.length + 30) (m2 : ms (cn 32) mid ≤ 2 * cn 32 x + 4)
    (k : j = i → ms Str.length mid ≤ x.length + 30 ∧ ms (cn 32) mid ≤ cn 32 x + 4) (am : (∀ l ∈ ls, As l) → ∀ l ∈ mid, As l) : Mz ls (ls.take i ++ mid ++ ls.drop j) := by
  have a1 := ms_at Str.length h
  have a2 := ms_at (cn 32) h
  have c1 := ms_cut Str.length ls i
  have c2 := ms_cut (cn 32) ls i
  have il := (List.getElem?_eq_some_iff.mp h).1
  refine ⟨fun l hl => ?_, ?_, ?_, ?_, fun g l hl => ?_⟩
  · rcases List.mem_append.mp hl with hl | hl
    · rcases List.mem_append.mp hl with hl | hl
      · exact nf l (List.mem_of_mem_take hl)
      · exact n1 l hl
    · exact nf l (List.mem_of_mem_drop hl)
  · rw [List.length_append, List.length_append, List.length_take, List.length_drop]
    rcases hj with rfl | rfl <;> omega
  · rw [ms_app, ms_app]
    rcases hj with rfl | rfl
    · have := (k rfl).1
      omega
    · omega
  · rw [ms_app, ms_app]
    rcases hj with rfl | rfl
    · have := (k rfl).2
      omega
    · omega
  · rcases List.mem_append.mp hl with hl | hl
    · rcases List.mem_append.mp hl with hl | hl
      · exact g l (List.mem_of_mem_take hl)
      · exact am g l hl
    · exact g l (List.mem_of_mem_drop hl)
theorem Mz.swap {ls : List Str} {i j : Nat} {a b : Str} (nf : ∀ l ∈ ls, NF l) (hi : ls[i]? = some a) (hj : ls[j]? = some b) : Mz ls ((ls.set i b).set j a) := by
  have e : (ls.set i b)[j]? = some b := by
    by_cases c : i = j
    · subst c
      rw [List.getElem?_set_self (List.getElem?_eq_some_iff.mp hi).1]
    · rw [List.getElem?_set_ne c]
      exact hj
  have s1 := ms_set Str.length hi b
  have s2 := ms_set Str.length e a
  have t1 := ms_set (cn 32) hi b
  have t2 := ms_set (cn 32) e a
  have all : ∀ l ∈ (ls.set i b).set j a, l ∈ ls := fun l hl => by
    rcases List.mem_or_eq_of_mem_set hl with hl | rfl
    · rcases List.mem_or_eq_of_mem_set hl with hl | rfl
      · exact hl
      · exact List.mem_of_getElem? hj
    · exact List.mem_of_getElem? hi
  exact ⟨fun l hl => nf l (all l hl), by rw [List.length_set, List.length_set]; omega, by omega, by omega, fun g l hl => g l (all l hl)⟩
/-- a text that was spoilt n times -/
structure Tb (n : Nat) (x : Str) : Prop where
  ln : x.length ≤ 400 * 2 ^ n + 40 * (2 ^ n - 1)
  nl : cn 10 x ≤ 15 + n
  sp : cn 32 x ≤ 30 * 2 ^ n + 6 * (2 ^ n - 1)
  as : As x
theorem Tb.ok {n : Nat} {x : Str} (h : Tb n x) (n2 : n ≤ 2) : x.length ≤ 1720 ∧ cn 10 x ≤ 17 ∧ cn 32 x ≤ 138 := by
  obtain ⟨a, b, c, _⟩ := h
  match n, n2 with
  | 0, _ => exact ⟨by omega, by omega, by omega⟩
  | 1, _ => exact ⟨by omega, by omega, by omega⟩
  | 2, _ => exact ⟨by omega, by omega, by omega⟩
theorem Tb.step {n : Nat} {x y : Str} (h : Tb n x) (a : y.length ≤ 2 * x.length + 40) (b : cn 10 y ≤ cn 10 x + 1) (c : cn 32 y ≤ 2 * cn 32 x + 6) (d : As y) : Tb (n + 1) y := by
  have p : 1 ≤ 2 ^ n := Nat.one_le_two_pow
  obtain ⟨h1, h2, h3, _⟩ := h
  refine ⟨?_, by omega, ?_, d⟩
  · rw [Nat.pow_succ]
    omega
  · rw [Nat.pow_succ]
    omega
theorem Tb.lines {n : Nat} {x : Str} {ls' : List Str} (h : Tb n x) (m : Mz (Txt.split x "\n") ls') : Tb (n + 1) (Txt.join "\n" ls') := by
  rw [TL.join_eq]
  have e := StrLaws.join_split x "\n"
  have ne := split_neL x
  have l1 := join_ln2 "\n" ne
  have l2 := join_tl 32 "\n" ne
  have l3 := lines_len2 x
  rw [e] at l1 l2
  have y1 : ("\n" : Str).length = 1 := rfl
  have y2 : cn 32 "\n" = 0 := by decide +kernel
  have y3 : cn 10 "\n" = 1 := by decide +kernel
  rw [y1] at l1
  rw [y2] at l2
  obtain ⟨nf, le, m1, m2, ma⟩ := m
  have mas : As (Str.join "\n" ls') := as_join (by unfold As; decide +kernel) (ma fun l hl => as_part h.as hl)
  by_cases c : ls' = []
  · subst c
    refine h.step (by show 0 ≤ _; omega) ?_ ?_ mas
    · show cn 10 "" ≤ _
      have : cn 10 "" = 0 := by decide +kernel
      omega
    · show cn 32 "" ≤ _
      have : cn 32 "" = 0 := by decide +kernel
      omega
  · have k1 := join_ln2 "\n" c
    have k2 := join_tl 32 "\n" c
    have k3 := join_tl 10 "\n" c
    rw [y1] at k1
    rw [y2] at k2
    rw [y3] at k3
    have z : ms (cn 10) ls' = 0 := by
      clear k1 k2 k3 m1 m2 le c mas ma
      induction ls' with
      | nil => rfl
      | cons l r ih =>
        rw [ms_cons, nf l List.mem_cons_self, ih fun y hy => nf y (List.mem_cons_of_mem _ hy)]
    exact h.step (by omega) (by omega) (by omega) mas
theorem Tb.okv {n : Nat} {x : Str} (h : Tb n x) (n2 : n ≤ 2) : OkV (.str x) := by
  intro y e
  injection e with e
  subst e
  obtain ⟨a, b, c⟩ := h.ok n2
  have ne := split_neL x
  have l2 := join_tl 32 "\n" ne
  rw [StrLaws.join_split x "\n"] at l2
  have y2 : cn 32 "\n" = 0 := by decide +kernel
  rw [y2] at l2
  refine ⟨by omega, by rw [lines_len2]; omega, fun l hl => ⟨by have := part_le x hl; omega, ?_, fun w hw => by have := part_le x hl; have := part_le l hw; omega⟩⟩
  rw [parts_len]
  have := ms_mem (cn 32) hl
  omega
end My

namespace My
open PySem PySem.Spec PyProof.Rows L2 Gy Xl Xs Xt Xo Xp
theorem cut_fr (xs : List Str) (n : Nat) : cutV (xs.map V.str) (some (n : Int)) none = (xs.drop n).map V.str := by
  unfold cutV
  rw [HT.sIx_nat, HT.sIx_none, List.length_map]
  by_cases c : n ≤ xs.length
  · rw [Nat.min_eq_left c, ← List.map_drop, List.take_of_length_le (by rw [List.length_map, List.length_drop]; exact Nat.le_refl _)]
  · rw [Nat.min_eq_right (by omega), List.drop_of_length_le (by rw [List.length_map]; exact Nat.le_refl _), List.drop_of_length_le (by omega), List.take_nil]
    rfl
theorem but_none {r a : Addr} {H H' : Hp} (b : But r H H') (n : a ≠ r) (h : H' a = none) : H a = none := by
  cases z : H a with
  | none => rfl
  | some o => rw [b _ _ n z] at h; cases h
theorem ixN_n {n j : Nat} (hj : j < n) : ixN n (j : Int) = some j := by
  unfold ixN
  rw [if_pos (by omega), if_pos (by omega)]
  simp
theorem cut_to (xs : List Str) (n : Nat) : cutV (xs.map V.str) none (some (n : Int)) = (xs.take n).map V.str := by
  unfold cutV
  rw [HT.sIx_nat, HT.sIx_none, List.length_map, List.drop_zero, Nat.sub_zero, ← List.map_take]
  by_cases c : n ≤ xs.length
  · rw [Nat.min_eq_left c]
  · rw [Nat.min_eq_right (by omega), List.take_of_length_le (Nat.le_refl _), List.take_of_length_le (by omega)]
theorem cut_one {xs : List Str} {n : Nat} {x : Str} (h : xs[n]? = some x) : cutV (xs.map V.str) (some (n : Int)) (some ((n : Int) + 1)) = [V.str x] := by
  have il := (List.getElem?_eq_some_iff.mp h).1
  unfold cutV
  rw [show (n : Int) + 1 = ((n + 1 : Nat) : Int) by omega, HT.sIx_nat, HT.sIx_nat, List.length_map, Nat.min_eq_left (by omega), Nat.min_eq_left (by omega), ← List.map_drop, drop_at h, List.map_cons, show n + 1 - n = 1 by omega]
  rfl
section
variable {P : Program} {w : World} {K : PySem.W.Frag} {mg : Str → Option Value} {base : Heap} {H : Hp}
/-- the lines that may be put in -/
def Mn (menu : List Str) : Prop := menu ≠ [] ∧ menu.length ≤ 20 ∧ ∀ m ∈ menu, NF m ∧ m.length ≤ 30 ∧ cn 32 m ≤ 4 ∧ As m
def spLS : Sp := fun vs H Q _ => ∃ (r la lm : Addr) (ls menu : List Str), vs = [.ref r, .ref la, .ref lm] ∧ Rng H r ∧ la ≠ r ∧ lm ≠ r ∧ H la = some (.lst (ls.map V.str)) ∧ H lm = some (.lst (menu.map V.str)) ∧ ls ≠ [] ∧ ls.length ≤ 60 ∧ (∀ l ∈ ls, NF l ∧ l.length ≤ 2000) ∧ Mn menu ∧
  ∀ (H' : Hp) (L : Addr) (ls' : List Str), But r H H' → Rng H' r → H' L = some (.lst (ls'.map V.str)) → Mz ls ls' → Q (.ref L) H'
theorem ok_ls {f : Addr} {fd : FuncData} (F : Fun K "_law_lines_spoilt" "_law_lines_spoilt" s_law_lines_spoilt f fd) (Y : Bn mg) (G_law_draw : Fk P w K mg base CX0 1 "_law_draw" ["_law_rng_here", "_law_many"] spDraw) : FnOk P w K mg base CX0 2 f fd ["_law_rng_here", "_law_lines", "_law_menu"] spLS := by
  refine F.ok sc_law_lines_spoilt (fun vs H Q E h => ?_) (fun cdv A outer s H vs Q E hr h => ?_)
  · obtain ⟨r, la, lm, ls, menu, rfl, _⟩ := h
    rfl
  · obtain ⟨r, la, lm, ls, menu, rfl, R, nla, nlm, hla, hlm, ne, l60, lsz, mn, q⟩ := h
    have nf : ∀ l ∈ ls, NF l := fun l hl => (lsz l hl).1
    have pos : 0 < ls.length := List.length_pos_iff.mpr ne
    refine ⟨_, (pss_cons (ps_par (i := 3) (j := 4) (by rfl) sc_law_lines_spoilt.nd rfl rfl (by decide) rfl rfl (pa_cons (pe_callF G_law_draw (hr.mono (by decide)) (by rfl) pass0 (pa_cons (pv 0) (pa_cons pe_int pa_nil))) (pa_cons (pe_callF G_law_draw (hr.mono (by decide)) (by rfl) pass0 (pa_cons (pv 0) (pa_cons (pe_callB call_len_seq (by rfl) Y.len PySem.boot_len (pa_cons (pv 1) pa_nil)) pa_nil))) pa_nil)) (by rfl))
 (pss_cons (ps_if (pt_cmpR op_eq (pv 3) pe_int (nomark _))
 (pss_one (ps_ret (pe_op op_cat (pe_slice sl_list (pv 1) po_none (po_some (pv 4))) (pe_slice sl_list (pv 1) (po_some (pe_op op_add (pv 4) pe_int)) po_none))))
 pss_nil)
 (pss_cons (ps_if (pt_cmpR op_eq (pv 3) pe_int (nomark _))
 (pss_one (ps_ret (pe_op op_cat (pe_op op_cat (pe_slice sl_list (pv 1) po_none (po_some (pv 4))) (pe_slice sl_list (pv 1) (po_some (pv 4)) (po_some (pe_op op_add (pv 4) pe_int)))) (pe_slice sl_list (pv 1) (po_some (pv 4)) po_none))))
 pss_nil)
 (pss_cons (ps_if (pt_cmpR op_eq (pv 3) pe_int (nomark _))
 (pss_one (ps_ret (pe_op op_cat (pe_op op_cat (pe_slice sl_list (pv 1) po_none (po_some (pv 4))) (pe_lst (pa_cons (pe_ix ix_list (pv 2) (pe_callF G_law_draw (hr.mono (by decide)) (by rfl) pass0 (pa_cons (pv 0) (pa_cons (pe_callB call_len_seq (by rfl) Y.len PySem.boot_len (pa_cons (pv 2) pa_nil)) pa_nil))) (fun _ _ => rfl)) pa_nil))) (pe_slice sl_list (pv 1) (po_some (pv 4)) po_none))))
 pss_nil)
 (pss_cons (ps_if (pt_cmpR op_eq (pv 3) pe_int (nomark _))
 (pss_cons (ps_set (i := 5) sc_law_lines_spoilt.nd rfl (.inl rfl) (pe_callF G_law_draw (hr.mono (by decide)) (by rfl) pass0 (pa_cons (pv 0) (pa_cons (pe_callB call_len_seq (by rfl) Y.len PySem.boot_len (pa_cons (pv 1) pa_nil)) pa_nil))))
 (pss_cons (ps_set (i := 6) sc_law_lines_spoilt.nd rfl (.inl rfl) (pe_callTy call_list_of (by rfl) Y.list (by decide +kernel) (pa_cons (pv 1) pa_nil)))
 (pss_cons (ps_asg (pe_tupZ (pa_cons (pe_ix ix_list (pv 6) (pv 5) (fun _ _ => rfl)) (pa_cons (pe_ix ix_list (pv 6) (pv 4) (fun _ _ => rfl)) pa_nil))) (pg_tup (by rfl) (pgs_cons (pg_sub (pv 6) (pv 4) set_list) (pgs_cons (pg_sub (pv 6) (pv 5) set_list) pgs_nil))))
 (pss_one (ps_ret (pv 6))))))
 pss_nil)
 (pss_cons (ps_if (pt_cmpR op_eq (pv 3) pe_int (nomark _))
 (pss_one (ps_ret (pe_op op_cat (pe_op op_cat (pe_slice sl_list (pv 1) po_none (po_some (pv 4))) (pe_lst (pa_cons (pe_op op_add_str (pe_ix ix_list (pv 1) (pv 4) (fun _ _ => rfl)) (pe_ix ix_list (pe_lst (pa_cons pe_str (pa_cons pe_str (pa_cons pe_str (pa_cons pe_str (pa_cons pe_str pa_nil)))))) (pe_callF G_law_draw (hr.mono (by decide)) (by rfl) pass0 (pa_cons (pv 0) (pa_cons pe_int pa_nil))) (fun _ _ => rfl))) pa_nil))) (pe_slice sl_list (pv 1) (po_some (pe_op op_add (pv 4) pe_int)) po_none))))
 pss_nil)
 (pss_cons (ps_set (i := 7) sc_law_lines_spoilt.nd rfl (.inl rfl) (pe_split (pe_ix ix_list (pv 1) (pv 4) (fun _ _ => rfl)) pe_str))
 (pss_cons (ps_set (i := 8) sc_law_lines_spoilt.nd rfl (.inl rfl) (pe_callF G_law_draw (hr.mono (by decide)) (by rfl) pass0 (pa_cons (pv 0) (pa_cons (pe_callB call_len_seq (by rfl) Y.len PySem.boot_len (pa_cons (pv 7) pa_nil)) pa_nil))))
 (pss_cons (ps_set (i := 9) sc_law_lines_spoilt.nd rfl (.inl rfl) (pe_lst (pa_cons pe_str (pa_cons pe_str (pa_cons pe_str (pa_cons pe_str (pa_cons pe_str (pa_cons pe_str (pa_cons (pe_op op_add_str (pe_ix ix_list (pv 7) (pv 8) (fun _ _ => rfl)) pe_str) (pa_cons (pe_ix ix_list (pv 7) pe_int (fun _ _ => rfl)) (pa_cons (pe_ix ix_list (pv 7) (pe_un un_neg pe_int) (fun _ _ => rfl)) (pa_cons pe_str (pa_cons pe_str (pa_cons pe_str pa_nil))))))))))))))
 (pss_cons (ps_asg (pe_ix ix_list (pv 9) (pe_callF G_law_draw (hr.mono (by decide)) (by rfl) pass0 (pa_cons (pv 0) (pa_cons (pe_callB call_len_seq (by rfl) Y.len PySem.boot_len (pa_cons (pv 9) pa_nil)) pa_nil))) (fun _ _ => rfl)) (pg_sub (pv 7) (pv 8) set_list))
 (pss_one (ps_ret (pe_op op_cat (pe_op op_cat (pe_slice sl_list (pv 1) po_none (po_some (pv 4))) (pe_lst (pa_cons (pe_join pe_str (pv 7)) pa_nil))) (pe_slice sl_list (pv 1) (po_some (pe_op op_add (pv 4) pe_int)) po_none)))))))))))))), ?_⟩
    refine ⟨_, rfl, r, 7, rfl, R, by decide, by decide, fun H1 wy b1 R1 w0 w1 => ?_⟩
    have hla1 := b1 _ _ nla hla
    refine ⟨_, rfl, _, rfl, la, _, rfl, .inl (SqL.of hla1), r, _, rfl, R1, by rw [List.length_map]; omega, by rw [List.length_map]; omega, fun H2 at_ b2 R2 a0 a1 => ?_⟩
    rw [List.length_map] at a1
    obtain ⟨i, rfl⟩ := Int.eq_ofNat_of_zero_le a0
    refine ⟨_, _, rfl, ?_⟩
    have b02 := b1.trans b2
    have hla2 := b2 _ _ nla hla1
    have hlm2 := b02 _ _ nlm hlm
    obtain ⟨x, hx⟩ : ∃ x, ls[i]? = some x := ⟨_, List.getElem?_eq_getElem (by omega)⟩
    have lx := (lsz x (List.mem_of_getElem? hx)).2
    have nfx := nf x (List.mem_of_getElem? hx)
    have fin : ∀ {H' : Hp} {L : Addr} {ls' : List Str}, But r H2 H' → Rng H' r → H' L = some (.lst (ls'.map V.str)) → Mz ls ls' → Q (.ref L) H' := fun b R e m => q _ _ _ (b02.trans b) R e m
    clear hla hlm hla1 b1 R1 R b2
    have hla := hla2
    have hla0 := hla2
    have hlm := hlm2
    have R := R2
    have b : But r H2 H2 := But.of (Same.refl _)
    clear hla2 hlm2
    refine ⟨_, rfl, rfl, _, rfl, ite2 (fun c => ?_) (fun c => ?_)⟩
    · clear c
      refine ⟨_, rfl, _, rfl, _, rfl, la, _, rfl, SqL.of hla, fun pa npa => ?_⟩
      generalize hg : upd _ pa _ = H11
      obtain ⟨s11, gpa⟩ := upd_new hg npa
      clear hg
      rw [cut_to] at gpa
      have n_pa := (R.ne npa)
      have hla := s11 _ _ hla
      have hlm := s11 _ _ hlm
      have b := b.trans (But.of s11)
      have R := R.same s11
      refine ⟨_, rfl, _, rfl, _, _, rfl, rfl, _, rfl, la, _, rfl, SqL.of hla, fun pb npb => ?_⟩
      generalize hg : upd _ pb _ = H12
      obtain ⟨s12, gpb⟩ := upd_new hg npb
      clear hg
      rw [show ((i : Nat) : Int) + 1 = ((i + 1 : Nat) : Int) by omega, cut_fr] at gpb
      have n_pb := (R.ne npb)
      have hla := s12 _ _ hla
      have hlm := s12 _ _ hlm
      have gpa := s12 _ _ gpa
      have b := b.trans (But.of s12)
      have R := R.same s12
      refine ⟨pa, pb, _, _, rfl, rfl, gpa, gpb, (by simp only [List.length_map, List.length_take, List.length_drop, List.length_append, List.length_cons, List.length_nil]; exact Nat.le_of_lt (small200 (by omega))), fun pc npc => ?_⟩
      generalize hg : upd _ pc _ = H13
      obtain ⟨s13, gpc⟩ := upd_new hg npc
      clear hg
      have n_pc := (R.ne npc)
      have hla := s13 _ _ hla
      have hlm := s13 _ _ hlm
      have gpa := s13 _ _ gpa
      have gpb := s13 _ _ gpb
      have b := b.trans (But.of s13)
      have R := R.same s13
      refine fin b R (ls' := ls.take i ++ [] ++ ls.drop (i + 1)) (by rw [List.append_nil, List.map_append]; exact gpc) (Mz.mk2 nf hx (.inr rfl) (by decide) (fun _ z => nomatch z) (Nat.zero_le _) (Nat.zero_le _) (fun z => absurd z (by omega)) fun _ _ z => nomatch z)
    clear c
    refine ⟨_, rfl, rfl, _, rfl, ite2 (fun c => ?_) (fun c => ?_)⟩
    · clear c
      refine ⟨_, rfl, _, rfl, _, rfl, la, _, rfl, SqL.of hla, fun pa npa => ?_⟩
      generalize hg : upd _ pa _ = H11
      obtain ⟨s11, gpa⟩ := upd_new hg npa
      clear hg
      rw [cut_to] at gpa
      have n_pa := (R.ne npa)
      have hla := s11 _ _ hla
      have hlm := s11 _ _ hlm
      have b := b.trans (But.of s11)
      have R := R.same s11
      refine ⟨_, rfl, _, rfl, _, rfl, _, rfl, _, _, rfl, rfl, _, rfl, la, _, rfl, SqL.of hla, fun pb npb => ?_⟩
      generalize hg : upd _ pb _ = H12
      obtain ⟨s12, gpb⟩ := upd_new hg npb
      clear hg
      rw [cut_one hx] at gpb
      have n_pb := (R.ne npb)
      have hla := s12 _ _ hla
      have hlm := s12 _ _ hlm
      have gpa := s12 _ _ gpa
      have b := b.trans (But.of s12)
      have R := R.same s12
      refine ⟨pa, pb, _, _, rfl, rfl, gpa, gpb, (by simp only [List.length_map, List.length_take, List.length_drop, List.length_append, List.length_cons, List.length_nil]; exact Nat.le_of_lt (small200 (by omega))), fun pc npc => ?_⟩
      generalize hg : upd _ pc _ = H13
      obtain ⟨s13, gpc⟩ := upd_new hg npc
      clear hg
      have n_pc := (R.ne npc)
      have hla := s13 _ _ hla
      have hlm := s13 _ _ hlm
      have gpa := s13 _ _ gpa
      have gpb := s13 _ _ gpb
      have b := b.trans (But.of s13)
      have R := R.same s13
      refine ⟨_, rfl, _, rfl, _, rfl, la, _, rfl, SqL.of hla, fun pd npd => ?_⟩
      generalize hg : upd _ pd _ = H14
      obtain ⟨s14, gpd⟩ := upd_new hg npd
      clear hg
      rw [cut_fr] at gpd
      have n_pd := (R.ne npd)
      have hla := s14 _ _ hla
      have hlm := s14 _ _ hlm
      have gpa := s14 _ _ gpa
      have gpb := s14 _ _ gpb
      have gpc := s14 _ _ gpc
      have b := b.trans (But.of s14)
      have R := R.same s14
      refine ⟨pc, pd, _, _, rfl, rfl, gpc, gpd, (by simp only [List.length_map, List.length_take, List.length_drop, List.length_append, List.length_cons, List.length_nil]; exact Nat.le_of_lt (small200 (by omega))), fun pe npe => ?_⟩
      generalize hg : upd _ pe _ = H15
      obtain ⟨s15, gpe⟩ := upd_new hg npe
      clear hg
      have n_pe := (R.ne npe)
      have hla := s15 _ _ hla
      have hlm := s15 _ _ hlm
      have gpa := s15 _ _ gpa
      have gpb := s15 _ _ gpb
      have gpc := s15 _ _ gpc
      have gpd := s15 _ _ gpd
      have b := b.trans (But.of s15)
      have R := R.same s15
      refine fin b R (ls' := ls.take i ++ [x] ++ ls.drop i) (by rw [List.map_append, List.map_append]; exact gpe) (Mz.mk2 nf hx (.inl rfl) (by show 1 ≤ 1; decide) (fun l hl => by rw [List.mem_singleton.mp hl]; exact nfx) (by rw [ms_cons, ms_nil]; omega) (by rw [ms_cons, ms_nil]; omega) (fun _ => ⟨by rw [ms_cons, ms_nil]; omega, by rw [ms_cons, ms_nil]; omega⟩) fun g l hl => by rw [List.mem_singleton.mp hl]; exact g x (List.mem_of_getElem? hx))
    clear c
    refine ⟨_, rfl, rfl, _, rfl, ite2 (fun c => ?_) (fun c => ?_)⟩
    · clear c
      refine ⟨_, rfl, _, rfl, _, rfl, la, _, rfl, SqL.of hla, fun pa npa => ?_⟩
      generalize hg : upd _ pa _ = H11
      obtain ⟨s11, gpa⟩ := upd_new hg npa
      clear hg
      rw [cut_to] at gpa
      have n_pa := (R.ne npa)
      have hla := s11 _ _ hla
      have hlm := s11 _ _ hlm
      have b := b.trans (But.of s11)
      have R := R.same s11
      obtain ⟨mne, ml, mok⟩ := mn
      have mpos : 0 < menu.length := List.length_pos_iff.mpr mne
      refine ⟨_, rfl, _, rfl, _, rfl, lm, _, rfl, .inl (SqL.of hlm), r, _, rfl, R, by rw [List.length_map]; omega, by rw [List.length_map]; omega, fun H12 e b12 R12 e0 e1 => ?_⟩
      have hla := b12 _ _ nla hla
      have hlm := b12 _ _ nlm hlm
      have gpa := b12 _ _ n_pa gpa
      have b := b.trans b12
      have R := R12
      rw [List.length_map] at e1
      obtain ⟨j, rfl⟩ := Int.eq_ofNat_of_zero_le e0
      obtain ⟨m, hm⟩ : ∃ m, menu[j]? = some m := ⟨_, List.getElem?_eq_getElem (by omega)⟩
      obtain ⟨m1, m2, m3, m4⟩ := mok m (List.mem_of_getElem? hm)
      refine ⟨lm, _, (j : Int), .str m, rfl, rfl, SqL.of hlm, atI_nat (by rw [List.getElem?_map, hm]; rfl), (by show 1 ≤ sizeLine; decide), fun pb npb => ?_⟩
      generalize hg : upd _ pb _ = H13
      obtain ⟨s13, gpb⟩ := upd_new hg npb
      clear hg
      have n_pb := (R.ne npb)
      have hla := s13 _ _ hla
      have hlm := s13 _ _ hlm
      have gpa := s13 _ _ gpa
      have b := b.trans (But.of s13)
      have R := R.same s13
      refine ⟨pa, pb, _, _, rfl, rfl, gpa, gpb, (by simp only [List.length_map, List.length_take, List.length_drop, List.length_append, List.length_cons, List.length_nil]; exact Nat.le_of_lt (small200 (by omega))), fun pc npc => ?_⟩
      generalize hg : upd _ pc _ = H14
      obtain ⟨s14, gpc⟩ := upd_new hg npc
      clear hg
      have n_pc := (R.ne npc)
      have hla := s14 _ _ hla
      have hlm := s14 _ _ hlm
      have gpa := s14 _ _ gpa
      have gpb := s14 _ _ gpb
      have b := b.trans (But.of s14)
      have R := R.same s14
      refine ⟨_, rfl, _, rfl, _, rfl, la, _, rfl, SqL.of hla, fun pd npd => ?_⟩
      generalize hg : upd _ pd _ = H15
      obtain ⟨s15, gpd⟩ := upd_new hg npd
      clear hg
      rw [cut_fr] at gpd
      have n_pd := (R.ne npd)
      have hla := s15 _ _ hla
      have hlm := s15 _ _ hlm
      have gpa := s15 _ _ gpa
      have gpb := s15 _ _ gpb
      have gpc := s15 _ _ gpc
      have b := b.trans (But.of s15)
      have R := R.same s15
      refine ⟨pc, pd, _, _, rfl, rfl, gpc, gpd, (by simp only [List.length_map, List.length_take, List.length_drop, List.length_append, List.length_cons, List.length_nil]; exact Nat.le_of_lt (small200 (by omega))), fun pe npe => ?_⟩
      generalize hg : upd _ pe _ = H16
      obtain ⟨s16, gpe⟩ := upd_new hg npe
      clear hg
      have n_pe := (R.ne npe)
      have hla := s16 _ _ hla
      have hlm := s16 _ _ hlm
      have gpa := s16 _ _ gpa
      have gpb := s16 _ _ gpb
      have gpc := s16 _ _ gpc
      have gpd := s16 _ _ gpd
      have b := b.trans (But.of s16)
      have R := R.same s16
      refine fin b R (ls' := ls.take i ++ [m] ++ ls.drop i) (by rw [List.map_append, List.map_append]; exact gpe) (Mz.mk2 nf hx (.inl rfl) (by show 1 ≤ 1; decide) (fun l hl => by rw [List.mem_singleton.mp hl]; exact m1) (by rw [ms_cons, ms_nil]; omega) (by rw [ms_cons, ms_nil]; omega) (fun _ => ⟨by rw [ms_cons, ms_nil]; omega, by rw [ms_cons, ms_nil]; omega⟩) fun _ l hl => by rw [List.mem_singleton.mp hl]; exact m4)
    clear c
    refine ⟨_, rfl, rfl, _, rfl, ite2 (fun c => ?_) (fun c => ?_)⟩
    · clear c
      refine ⟨_, rfl, _, rfl, la, _, rfl, .inl (SqL.of hla), r, _, rfl, R, by rw [List.length_map]; omega, by rw [List.length_map]; omega, fun H11 e b11 R11 e0 e1 => ?_⟩
      have hla := b11 _ _ nla hla
      have hlm := b11 _ _ nlm hlm
      have b := b.trans b11
      have R := R11
      rw [List.length_map] at e1
      obtain ⟨j, rfl⟩ := Int.eq_ofNat_of_zero_le e0
      obtain ⟨y, hy⟩ : ∃ y, ls[j]? = some y := ⟨_, List.getElem?_eq_getElem (by omega)⟩
      refine ⟨_, rfl, la, _, rfl, .inl (SqL.of hla), fun pa npa => ?_⟩
      have b0 := b
      generalize hg : upd _ pa _ = H12
      obtain ⟨s12, gpa⟩ := upd_new hg npa
      clear hg
      have n_pa := (R.ne npa)
      have hla := s12 _ _ hla
      have hlm := s12 _ _ hlm
      have b := b.trans (But.of s12)
      have R := R.same s12
      refine ⟨_, rfl, _, rfl, pa, _, (j : Int), .str y, rfl, rfl, SqL.of gpa, atI_nat (by rw [List.getElem?_map, hy]; rfl), _, rfl, _, rfl, pa, _, (i : Int), .str x, rfl, rfl, SqL.of gpa, atI_nat (by rw [List.getElem?_map, hx]; rfl), (by show 2 ≤ sizeLine; decide), fun t o nt st zt => ?_⟩
      have z : ∀ (k : Nat), k < ls.length → ixN ls.length (k : Int) = some k := fun k hk => ixN_n hk
      have p2 : H2 pa = none := but_none b0 n_pa npa
      refine ⟨t, _, rfl, zt.sq, rfl, _, _, rfl, _, rfl, _, rfl, pa, _, (i : Int), i, rfl, rfl, st _ _ gpa, (by rw [List.length_map]; exact z i (by omega)), ?_⟩
      refine ⟨_, _, rfl, _, rfl, _, rfl, pa, _, (j : Int), j, rfl, rfl, upd_same, (by rw [List.length_set, List.length_map]; exact z j (by omega)), rfl, ?_⟩
      refine ⟨_, rfl, fin (ls' := (ls.set i y).set j x) ((b.trans (But.of st)).upd p2 |>.upd p2) (((R.same st).upd2 n_pa).upd2 n_pa) (by rw [upd_same, List.map_set, List.map_set]) (Mz.swap nf hx hy)⟩
    clear c
    refine ⟨_, rfl, rfl, _, rfl, ite2 (fun c => ?_) (fun c => ?_)⟩
    · clear c
      refine ⟨_, rfl, _, rfl, _, rfl, la, _, rfl, SqL.of hla, fun pa npa => ?_⟩
      generalize hg : upd _ pa _ = H11
      obtain ⟨s11, gpa⟩ := upd_new hg npa
      clear hg
      rw [cut_to] at gpa
      have n_pa := (R.ne npa)
      have hla := s11 _ _ hla
      have hlm := s11 _ _ hlm
      have b := b.trans (But.of s11)
      have R := R.same s11
      refine ⟨_, rfl, _, rfl, la, _, (i : Int), .str x, rfl, rfl, SqL.of hla, atI_nat (by rw [List.getElem?_map, hx]; rfl), (by show 5 ≤ sizeLine; decide), fun pb npb => ?_⟩
      generalize hg : upd _ pb _ = H12
      obtain ⟨s12, gpb⟩ := upd_new hg npb
      clear hg
      have n_pb := (R.ne npb)
      have hla := s12 _ _ hla
      have hlm := s12 _ _ hlm
      have gpa := s12 _ _ gpa
      have b := b.trans (But.of s12)
      have R := R.same s12
      refine ⟨_, rfl, r, 5, rfl, R, by decide, by decide, fun H13 e b13 R13 e0 e1 => ?_⟩
      have hla := b13 _ _ nla hla
      have hlm := b13 _ _ nlm hlm
      have gpa := b13 _ _ n_pa gpa
      have gpb := b13 _ _ n_pb gpb
      have b := b.trans b13
      have R := R13
      obtain ⟨v, hv, mv⟩ := at_inL gpb rfl e0 e1
      have vs : ∃ y : Str, v = .str y ∧ y.length ≤ 2 ∧ cn 32 y ≤ 1 ∧ NF y ∧ As y := by
        simp only [List.mem_cons, List.not_mem_nil, or_false] at mv
        rcases mv with rfl | rfl | rfl | rfl | rfl
        · exact ⟨" ", rfl, by decide +kernel, by decide +kernel, by unfold NF; decide +kernel, by unfold As; decide +kernel⟩
        · exact ⟨" a", rfl, by decide +kernel, by decide +kernel, by unfold NF; decide +kernel, by unfold As; decide +kernel⟩
        · exact ⟨" 0", rfl, by decide +kernel, by decide +kernel, by unfold NF; decide +kernel, by unfold As; decide +kernel⟩
        · exact ⟨"x", rfl, by decide +kernel, by decide +kernel, by unfold NF; decide +kernel, by unfold As; decide +kernel⟩
        · exact ⟨"1", rfl, by decide +kernel, by decide +kernel, by unfold NF; decide +kernel, by unfold As; decide +kernel⟩
      obtain ⟨y, rfl, y1, y2, y3, y4⟩ := vs
      refine ⟨pb, _, e, .str y, rfl, rfl, SqL.of gpb, hv, x, y, rfl, rfl, le200 (by omega), (by show 1 ≤ sizeLine; decide), fun pc npc => ?_⟩
      generalize hg : upd _ pc _ = H14
      obtain ⟨s14, gpc⟩ := upd_new hg npc
      clear hg
      have n_pc := (R.ne npc)
      have hla := s14 _ _ hla
      have hlm := s14 _ _ hlm
      have gpa := s14 _ _ gpa
      have gpb := s14 _ _ gpb
      have b := b.trans (But.of s14)
      have R := R.same s14
      refine ⟨pa, pc, _, _, rfl, rfl, gpa, gpc, (by simp only [List.length_map, List.length_take, List.length_drop, List.length_append, List.length_cons, List.length_nil]; exact Nat.le_of_lt (small200 (by omega))), fun pd npd => ?_⟩
      generalize hg : upd _ pd _ = H15
      obtain ⟨s15, gpd⟩ := upd_new hg npd
      clear hg
      have n_pd := (R.ne npd)
      have hla := s15 _ _ hla
      have hlm := s15 _ _ hlm
      have gpa := s15 _ _ gpa
      have gpb := s15 _ _ gpb
      have gpc := s15 _ _ gpc
      have b := b.trans (But.of s15)
      have R := R.same s15
      refine ⟨_, rfl, _, rfl, _, _, rfl, rfl, _, rfl, la, _, rfl, SqL.of hla, fun pe npe => ?_⟩
      generalize hg : upd _ pe _ = H16
      obtain ⟨s16, gpe⟩ := upd_new hg npe
      clear hg
      rw [show ((i : Nat) : Int) + 1 = ((i + 1 : Nat) : Int) by omega, cut_fr] at gpe
      have n_pe := (R.ne npe)
      have hla := s16 _ _ hla
      have hlm := s16 _ _ hlm
      have gpa := s16 _ _ gpa
      have gpb := s16 _ _ gpb
      have gpc := s16 _ _ gpc
      have gpd := s16 _ _ gpd
      have b := b.trans (But.of s16)
      have R := R.same s16
      refine ⟨pd, pe, _, _, rfl, rfl, gpd, gpe, (by simp only [List.length_map, List.length_take, List.length_drop, List.length_append, List.length_cons, List.length_nil]; exact Nat.le_of_lt (small200 (by omega))), fun pf npf => ?_⟩
      generalize hg : upd _ pf _ = H17
      obtain ⟨s17, gpf⟩ := upd_new hg npf
      clear hg
      have n_pf := (R.ne npf)
      have hla := s17 _ _ hla
      have hlm := s17 _ _ hlm
      have gpa := s17 _ _ gpa
      have gpb := s17 _ _ gpb
      have gpc := s17 _ _ gpc
      have gpd := s17 _ _ gpd
      have gpe := s17 _ _ gpe
      have b := b.trans (But.of s17)
      have R := R.same s17
      refine fin b R (ls' := ls.take i ++ [x ++ y] ++ ls.drop (i + 1)) (by rw [List.map_append, List.map_append]; exact gpf) (Mz.mk2 nf hx (.inr rfl) (by show 1 ≤ 1; decide) (fun l hl => by rw [List.mem_singleton.mp hl]; unfold NF; rw [cn_app, nfx, y3]) (by rw [ms_cons, ms_nil, len_app]; omega) (by rw [ms_cons, ms_nil, cn_app]; omega) (fun z => absurd z (by omega)) fun g l hl => by rw [List.mem_singleton.mp hl]; exact as_app (g x (List.mem_of_getElem? hx)) y4)
    clear c
    refine ⟨_, rfl, _, rfl, la, _, (i : Int), .str x, rfl, rfl, SqL.of hla, atI_nat (by rw [List.getElem?_map, hx]; rfl), ⟨_, rfl⟩, _, _, rfl, rfl, rfl, le200 (by have := PyProof.Rows.split_le x " "; omega), fun pw npw => ?_⟩
    have b0 := b
    have sne := split_ne x
    have wf : ∀ p ∈ Txt.split x " ", cn 32 p = 0 ∧ NF p ∧ p.length ≤ x.length := fun p hp => ⟨nf_sp hp, nf_sub nfx hp, part_le x hp⟩
    have wa4 : As x → ∀ p ∈ Txt.split x " ", As p := fun a p hp => as_part a hp
    have jw := StrLaws.join_split x " "
    generalize hg : upd _ pw _ = H11
    obtain ⟨s11, gpw⟩ := (show Same H2 H11 ∧ H11 pw = some (.lst ((Txt.split x " ").map V.str)) by rw [← hg]; exact ⟨same_upd npw, upd_same⟩)
    clear hg
    have n_pw := R.ne npw
    have hla := s11 _ _ hla
    have hlm := s11 _ _ hlm
    have b := b.trans (But.of s11)
    have R := R.same s11
    generalize hws : Txt.split x " " = ws at gpw sne wf jw wa4
    have wpos : 0 < ws.length := List.length_pos_iff.mpr sne
    have wlen : ws.length ≤ x.length + 2 := by rw [← hws]; exact PyProof.Rows.split_le x " "
    refine ⟨_, rfl, _, rfl, pw, _, rfl, .inl (SqL.of gpw), r, _, rfl, R, by rw [List.length_map]; omega, by rw [List.length_map]; omega, fun H12 e b12 R12 e0 e1 => ?_⟩
    have hla := b12 _ _ nla hla
    have hlm := b12 _ _ nlm hlm
    have gpw := b12 _ _ n_pw gpw
    have b := b.trans b12
    have R := R12
    rw [List.length_map] at e1
    obtain ⟨k, rfl⟩ := Int.eq_ofNat_of_zero_le e0
    obtain ⟨wk, hwk⟩ : ∃ w, ws[k]? = some w := ⟨_, List.getElem?_eq_getElem (by omega)⟩
    obtain ⟨wa, wt, ew⟩ := List.exists_cons_of_ne_nil sne
    obtain ⟨wi, wl, el⟩ : ∃ a b, ws = a ++ [b] := by
      rcases List.eq_nil_or_concat ws with h | ⟨a, b, h⟩
      · exact absurd h sne
      · exact ⟨a, b, by rw [h, List.concat_eq_append]⟩
    have k1 := wf wk (List.mem_of_getElem? hwk)
    have k2 := wf wa (by rw [ew]; exact List.mem_cons_self)
    have k3 := wf wl (by rw [el]; exact List.mem_append_right _ List.mem_cons_self)
    refine ⟨_, rfl, _, rfl, pw, _, (k : Int), .str wk, rfl, rfl, SqL.of gpw, atI_nat (by rw [List.getElem?_map, hwk]; rfl), wk, "q", rfl, rfl, le200 (by have : ("q" : Str).length = 1 := rfl; omega), ?_⟩
    refine ⟨_, rfl, pw, _, 0, .str wa, rfl, rfl, SqL.of gpw, atI_nat (j := 0) (by rw [ew]; rfl), ?_⟩
    refine ⟨_, rfl, 1, rfl, pw, _, -1, .str wl, rfl, rfl, SqL.of gpw, (by rw [el]; exact last_is _ _), (by show 12 ≤ sizeLine; decide), fun pp npp => ?_⟩
    generalize hg : upd _ pp _ = H13
    obtain ⟨s13, gpp⟩ := upd_new hg npp
    clear hg
    have n_pp := (R.ne npp)
    have hla := s13 _ _ hla
    have hlm := s13 _ _ hlm
    have gpw := s13 _ _ gpw
    have b := b.trans (But.of s13)
    have R := R.same s13
    refine ⟨_, rfl, _, rfl, _, rfl, pp, _, rfl, .inl (SqL.of gpp), r, 12, rfl, R, by decide, by decide, fun H14 u b14 R14 u0 u1 => ?_⟩
    have hla := b14 _ _ nla hla
    have hlm := b14 _ _ nlm hlm
    have gpw := b14 _ _ n_pw gpw
    have gpp := b14 _ _ n_pp gpp
    have b := b.trans b14
    have R := R14
    obtain ⟨v, hv, mv⟩ := at_inL gpp rfl u0 u1
    have vs : ∃ y : Str, v = .str y ∧ y.length ≤ x.length + 4 ∧ cn 32 y = 0 ∧ NF y ∧ (As x → As y) := by
      simp only [List.mem_cons, List.not_mem_nil, or_false] at mv
      rcases mv with rfl | rfl | rfl | rfl | rfl | rfl | rfl | rfl | rfl | rfl | rfl | rfl
      · exact ⟨"", rfl, Nat.le_trans (show ("" : Str).length ≤ 4 by decide +kernel) (by omega), by decide +kernel, by unfold NF; decide +kernel, fun _ => by unfold As; decide +kernel⟩
      · exact ⟨"0", rfl, Nat.le_trans (show ("0" : Str).length ≤ 4 by decide +kernel) (by omega), by decide +kernel, by unfold NF; decide +kernel, fun _ => by unfold As; decide +kernel⟩
      · exact ⟨"00", rfl, Nat.le_trans (show ("00" : Str).length ≤ 4 by decide +kernel) (by omega), by decide +kernel, by unfold NF; decide +kernel, fun _ => by unfold As; decide +kernel⟩
      · exact ⟨"-1", rfl, Nat.le_trans (show ("-1" : Str).length ≤ 4 by decide +kernel) (by omega), by decide +kernel, by unfold NF; decide +kernel, fun _ => by unfold As; decide +kernel⟩
      · exact ⟨"A", rfl, Nat.le_trans (show ("A" : Str).length ≤ 4 by decide +kernel) (by omega), by decide +kernel, by unfold NF; decide +kernel, fun _ => by unfold As; decide +kernel⟩
      · exact ⟨"x", rfl, Nat.le_trans (show ("x" : Str).length ≤ 4 by decide +kernel) (by omega), by decide +kernel, by unfold NF; decide +kernel, fun _ => by unfold As; decide +kernel⟩
      · exact ⟨wk ++ "q", rfl, by rw [len_app]; have : ("q" : Str).length = 1 := rfl; omega, by rw [cn_app, k1.1]; decide +kernel, by unfold NF; rw [cn_app, k1.2.1]; decide +kernel, fun a => as_app (wa4 a wk (List.mem_of_getElem? hwk)) (by unfold As; decide +kernel)⟩
      · exact ⟨wa, rfl, by omega, k2.1, k2.2.1, fun a => wa4 a wa (by rw [ew]; exact List.mem_cons_self)⟩
      · exact ⟨wl, rfl, by omega, k3.1, k3.2.1, fun a => wa4 a wl (by rw [el]; exact List.mem_append_right _ List.mem_cons_self)⟩
      · exact ⟨"1", rfl, Nat.le_trans (show ("1" : Str).length ≤ 4 by decide +kernel) (by omega), by decide +kernel, by unfold NF; decide +kernel, fun _ => by unfold As; decide +kernel⟩
      · exact ⟨"host", rfl, Nat.le_trans (show ("host" : Str).length ≤ 4 by decide +kernel) (by omega), by decide +kernel, by unfold NF; decide +kernel, fun _ => by unfold As; decide +kernel⟩
      · exact ⟨"link", rfl, Nat.le_trans (show ("link" : Str).length ≤ 4 by decide +kernel) (by omega), by decide +kernel, by unfold NF; decide +kernel, fun _ => by unfold As; decide +kernel⟩
    obtain ⟨y, rfl, y1, y2, y3, y4⟩ := vs
    have p2 : H2 pw = none := npw
    refine ⟨pp, _, u, .str y, rfl, rfl, SqL.of gpp, hv, _, rfl, _, rfl, pw, _, (k : Int), k, rfl, rfl, gpw, (by rw [List.length_map]; exact ixN_n (by omega)), ?_⟩
    generalize hH15 : upd _ pw _ = H15
    have hla : H15 la = some (.lst (ls.map V.str)) := by rw [← hH15, upd_ne (fun z => by rw [z, p2] at hla0; cases hla0)]; exact hla
    have gpw : H15 pw = some (.lst ((ws.set k y).map V.str)) := by rw [← hH15, upd_same, List.map_set]
    have b : But r H2 H15 := by rw [← hH15]; exact b.upd p2
    have R : Rng H15 r := by rw [← hH15]; exact R.upd2 n_pw
    have setne : ws.set k y ≠ [] := fun z => by have := congrArg List.length z; rw [List.length_set] at this; simp only [List.length_nil] at this; omega
    have a1 := join_ln2 " " sne
    have a2 := join_tl 32 " " sne
    have a3 := join_tl 10 " " sne
    have c1 := join_ln2 " " setne
    have c2 := join_tl 32 " " setne
    have c3 := join_tl 10 " " setne
    have d1 := ms_set Str.length hwk y
    have d2 := ms_set (cn 32) hwk y
    have d3 := ms_set (cn 10) hwk y
    have x1 : (" " : Str).length = 1 := rfl
    have x2 : cn 32 " " = 1 := by decide +kernel
    have x3 : cn 10 " " = 0 := by decide +kernel
    have ny3 : cn 10 y = 0 := y3
    have nk3 : cn 10 wk = 0 := k1.2.1
    have nx3 : cn 10 x = 0 := nfx
    rw [jw, x1] at a1
    rw [jw, x2] at a2
    rw [jw, x3] at a3
    rw [x1, List.length_set] at c1
    rw [x2, List.length_set] at c2
    rw [x3, List.length_set] at c3
    rw [y2, k1.1] at d2
    rw [ny3, nk3] at d3
    refine ⟨_, rfl, _, rfl, _, rfl, la, _, rfl, SqL.of hla, fun pa npa => ?_⟩
    generalize hg : upd _ pa _ = H16
    obtain ⟨s16, gpa⟩ := upd_new hg npa
    clear hg
    rw [cut_to] at gpa
    have n_pa := (R.ne npa)
    have hla := s16 _ _ hla
    have gpw := s16 _ _ gpw
    have b := b.trans (But.of s16)
    have R := R.same s16
    refine ⟨⟨_, rfl⟩, _, rfl, _, pw, _, rfl, rfl, .inl (SqL.of gpw), ?_, (by show 1 ≤ sizeLine; decide), fun pb npb => ?_⟩
    · show ms Str.length (ws.set k y) + (ws.set k y).length * 1 ≤ 16777216
      rw [List.length_set]
      omega
    generalize hg : upd _ pb _ = H17
    obtain ⟨s17, gpb⟩ := upd_new hg npb
    clear hg
    rw [TL.join_eq] at gpb
    have n_pb := (R.ne npb)
    have hla := s17 _ _ hla
    have gpw := s17 _ _ gpw
    have gpa := s17 _ _ gpa
    have b := b.trans (But.of s17)
    have R := R.same s17
    refine ⟨pa, pb, _, _, rfl, rfl, gpa, gpb, (by simp only [List.length_map, List.length_take, List.length_drop, List.length_append, List.length_cons, List.length_nil]; exact Nat.le_of_lt (small200 (by omega))), fun pc npc => ?_⟩
    generalize hg : upd _ pc _ = H18
    obtain ⟨s18, gpc⟩ := upd_new hg npc
    clear hg
    have n_pc := (R.ne npc)
    have hla := s18 _ _ hla
    have gpw := s18 _ _ gpw
    have gpa := s18 _ _ gpa
    have gpb := s18 _ _ gpb
    have b := b.trans (But.of s18)
    have R := R.same s18
    refine ⟨_, rfl, _, rfl, _, _, rfl, rfl, _, rfl, la, _, rfl, SqL.of hla, fun pd npd => ?_⟩
    generalize hg : upd _ pd _ = H19
    obtain ⟨s19, gpd⟩ := upd_new hg npd
    clear hg
    rw [show ((i : Nat) : Int) + 1 = ((i + 1 : Nat) : Int) by omega, cut_fr] at gpd
    have n_pd := (R.ne npd)
    have hla := s19 _ _ hla
    have gpw := s19 _ _ gpw
    have gpa := s19 _ _ gpa
    have gpb := s19 _ _ gpb
    have gpc := s19 _ _ gpc
    have b := b.trans (But.of s19)
    have R := R.same s19
    refine ⟨pc, pd, _, _, rfl, rfl, gpc, gpd, (by simp only [List.length_map, List.length_take, List.length_drop, List.length_append, List.length_cons, List.length_nil]; exact Nat.le_of_lt (small200 (by omega))), fun pe npe => ?_⟩
    generalize hg : upd _ pe _ = H20
    obtain ⟨s20, gpe⟩ := upd_new hg npe
    clear hg
    have n_pe := (R.ne npe)
    have hla := s20 _ _ hla
    have gpw := s20 _ _ gpw
    have gpa := s20 _ _ gpa
    have gpb := s20 _ _ gpb
    have gpc := s20 _ _ gpc
    have gpd := s20 _ _ gpd
    have b := b.trans (But.of s20)
    have R := R.same s20
    refine fin b R (ls' := ls.take i ++ [Str.join " " (ws.set k y)] ++ ls.drop (i + 1)) (by rw [List.map_append, List.map_append]; exact gpe) (Mz.mk2 nf hx (.inr rfl) (by show 1 ≤ 1; decide) (fun l hl => by rw [List.mem_singleton.mp hl]; unfold NF; omega) (by rw [ms_cons, ms_nil]; omega) (by rw [ms_cons, ms_nil]; omega) (fun z => absurd z (by omega)) fun g l hl => by rw [List.mem_singleton.mp hl]; exact as_join (by unfold As; decide +kernel) fun p hp => (List.mem_or_eq_of_mem_set hp).elim (wa4 (g x (List.mem_of_getElem? hx)) p) fun e => by rw [e]; exact y4 (g x (List.mem_of_getElem? hx)))
end
end My

namespace My
open PySem PySem.Spec PyProof.Rows L2 Gy Xl Xs Xt Xo Xp
theorem tl_cut_to (x : Str) (n : Nat) : TL.tl (cutS x none (some (n : Int))) = (TL.tl x).take n := by
  rw [cut_some]
  show x.cps.toList.take (min n x.length) = x.cps.toList.take n
  by_cases c : n ≤ x.length
  · rw [Nat.min_eq_left c]
  · have : x.cps.toList.length ≤ n := by
      rw [Array.length_toList]
      have : x.length = x.cps.size := rfl
      omega
    rw [Nat.min_eq_right (by omega), List.take_of_length_le this, List.take_of_length_le (by rw [Array.length_toList]; exact Nat.le_refl _)]
theorem tl_cut_fr (x : Str) (n : Nat) : TL.tl (cutS x (some (n : Int)) none) = (TL.tl x).drop n := by
  unfold cutS
  rw [HT.sIx_nat, HT.sIx_none]
  show (List.take _ (x.cps.toList.drop _)) = x.cps.toList.drop n
  have e : x.cps.toList.length = x.length := by rw [Array.length_toList]; rfl
  by_cases c : n ≤ x.length
  · rw [Nat.min_eq_left c, List.take_of_length_le (by rw [List.length_drop, e]; exact Nat.le_refl _)]
  · rw [Nat.min_eq_right (by omega), List.drop_of_length_le (by rw [e]; exact Nat.le_refl _), List.drop_of_length_le (by rw [e]; omega), List.take_nil]
theorem tl_cut_last (x : Str) : ∃ n, TL.tl (cutS x none (some (-1))) = (TL.tl x).take n := by
  unfold cutS
  rw [HT.sIx_none]
  exact ⟨_, rfl⟩
/-- not more of it than of x -/
structure Le (y x : Str) : Prop where
  ln : y.length ≤ x.length
  c0 : cn 10 y ≤ cn 10 x
  c2 : cn 32 y ≤ cn 32 x
  as : As x → As y
theorem le_sub {y x : Str} (h : (TL.tl y).Sublist (TL.tl x)) : Le y x := ⟨by rw [TL.len_tl, TL.len_tl]; exact h.length_le, h.count_le 10, h.count_le 32, fun a c hc => a c (h.subset hc)⟩
theorem le_split (x : Str) (n m : Nat) (k : n ≤ m) : (cutS x none (some (n : Int))).length + (cutS x (some (m : Int)) none).length ≤ x.length ∧ (∀ c, cn c (cutS x none (some (n : Int))) + cn c (cutS x (some (m : Int)) none) ≤ cn c x) ∧ (As x → As (cutS x none (some (n : Int))) ∧ As (cutS x (some (m : Int)) none)) := by
  have e : (TL.tl x).take n ++ (TL.tl x).drop n = TL.tl x := List.take_append_drop n _
  have sb : ((TL.tl x).drop m).Sublist ((TL.tl x).drop n) := by
    have : (TL.tl x).drop m = ((TL.tl x).drop n).drop (m - n) := by rw [List.drop_drop]; congr 1; omega
    rw [this]
    exact List.drop_sublist ..
  refine ⟨?_, fun c => ?_, fun a => ⟨fun c hc => ?_, fun c hc => ?_⟩⟩
  · rw [TL.len_tl, TL.len_tl, TL.len_tl x, tl_cut_to, tl_cut_fr]
    have := sb.length_le
    have := congrArg List.length e
    rw [List.length_append] at this
    omega
  · unfold cn
    rw [tl_cut_to, tl_cut_fr]
    have := sb.count_le c
    have := congrArg (List.count c) e
    rw [List.count_append] at this
    omega
  · rw [tl_cut_to] at hc
    exact a c (List.mem_of_mem_take hc)
  · rw [tl_cut_fr] at hc
    exact a c (List.mem_of_mem_drop hc)
theorem up_ok {x : Str} (a : As x) : (Txt.upper x).length = x.length ∧ cn 10 (Txt.upper x) = cn 10 x ∧ cn 32 (Txt.upper x) = cn 32 x ∧ As (Txt.upper x) := by
  have e : TL.tl (Txt.upper x) = (TL.tl x).map up1 := by
    rw [upper_ascii a]
    exact Array.toList_map ..
  have inj : ∀ c, c < 65 → ∀ d, up1 d = c ↔ d = c := fun c hc d => by
    unfold up1
    split <;> omega
  have cnt : ∀ c, c < 65 → ∀ l : List Nat, (l.map up1).count c = l.count c := fun c hc l => by
    induction l with
    | nil => rfl
    | cons d l ih =>
      rw [List.map_cons, List.count_cons, List.count_cons, ih]
      congr 1
      by_cases z : d = c
      · rw [if_pos (beq_iff_eq.mpr z), if_pos (beq_iff_eq.mpr ((inj c hc d).mpr z))]
      · rw [if_neg (fun w => z (beq_iff_eq.mp w)), if_neg (fun w => z ((inj c hc d).mp (beq_iff_eq.mp w)))]
  refine ⟨by rw [TL.len_tl, e, List.length_map, ← TL.len_tl], by unfold cn; rw [e, cnt 10 (by decide)], by unfold cn; rw [e, cnt 32 (by decide)], fun c hc => ?_⟩
  rw [e] at hc
  obtain ⟨d, hd, rfl⟩ := List.mem_map.mp hc
  have := a d hd
  unfold up1
  split <;> omega
/-- what a spoilt text may be -/
def Od (n : Nat) (d : PyData) : Prop := (∀ x, d = .str x → Tb n x) ∧ sml d = true
section
variable {P : Program} {w : World} {K : PySem.W.Frag} {mg : Str → Option Value} {base : Heap} {H : Hp}
def spSpo (K : PySem.W.Frag) : Sp := fun vs H Q _ => ∃ (r lm : Addr) (x : Str) (menu : List Str) (n : Nat), vs = [.ref r, .str x, .ref lm] ∧ Rng H r ∧ lm ≠ r ∧ H lm = some (.lst (menu.map V.str)) ∧ Mn menu ∧ Tb n x ∧ n ≤ 1 ∧
  ∀ (H' : Hp) (v : V) (d : PyData), But r H H' → Rng H' r → Db K r H' v d → (∀ y, d = .str y → Tb (n + 1) y) → Q v H'
theorem ok_spo {f : Addr} {fd : FuncData} (F : Fun K "_law_spoilt" "_law_spoilt" s_law_spoilt f fd) (Y : Bn mg) (G_law_draw : Fk P w K mg base CX0 1 "_law_draw" ["_law_rng_here", "_law_many"] spDraw)
    (G_law_lines_spoilt : Fk P w K mg base CX0 2 "_law_lines_spoilt" ["_law_rng_here", "_law_lines", "_law_menu"] spLS) : FnOk P w K mg base CX0 3 f fd ["_law_rng_here", "_law_text", "_law_menu"] (spSpo K) := by
  refine F.ok sc_law_spoilt (fun vs H Q E h => ?_) (fun cdv A outer s H vs Q E hr h => ?_)
  · obtain ⟨r, lm, x, menu, n, rfl, _⟩ := h
    rfl
  · obtain ⟨r, lm, x, menu, n, rfl, R, nlm, hlm, mn, tb, n1, q⟩ := h
    obtain ⟨tl1, tl2, tl3⟩ := tb.ok (by omega)
    have step := fun {y : Str} => tb.step (y := y)
    refine ⟨_, (pss_cons (ps_set (i := 3) sc_law_spoilt.nd rfl (.inl rfl) (pe_callF G_law_draw (hr.mono (by decide)) (by rfl) pass0 (pa_cons (pv 0) (pa_cons pe_int pa_nil))))
 (pss_cons (ps_if (pt_cmpR op_eq (pv 3) pe_int (nomark _))
 (pss_one (ps_ret (pe_ix ix_list (pe_lst (pa_cons pe_non (pa_cons pe_int (pa_cons pe_bl (pa_cons (pe_lst (pa_cons (pv 1) pa_nil)) (pa_cons (pe_tupZ (pa_cons (pv 1) pa_nil)) (pa_cons pe_dnewK (pa_cons pe_str (pa_cons pe_str (pa_cons pe_str (pa_cons pe_int (pa_cons pe_bl (pa_cons (pe_lst pa_nil) pa_nil))))))))))))) (pe_callF G_law_draw (hr.mono (by decide)) (by rfl) pass0 (pa_cons (pv 0) (pa_cons pe_int pa_nil))) (fun _ _ => rfl))))
 pss_nil)
 (pss_cons (ps_if (pt_cmpR op_eq (pv 3) pe_int (nomark _))
 (pss_one (ps_ret (pe_ix ix_list (pe_lst (pa_cons (pe_slice sl_str (pv 1) po_none (po_some (pe_un un_neg pe_int))) (pa_cons (pe_op op_add_str (pv 1) pe_str) (pa_cons (pe_op op_add_str pe_str (pv 1)) (pa_cons (pe_op op_add_str pe_str (pv 1)) (pa_cons (pe_upper (pv 1)) (pa_cons (pe_op op_add_str (pv 1) pe_str) pa_nil))))))) (pe_callF G_law_draw (hr.mono (by decide)) (by rfl) pass0 (pa_cons (pv 0) (pa_cons pe_int pa_nil))) (fun _ _ => rfl))))
 pss_nil)
 (pss_cons (ps_if (pt_cmpR op_lt (pv 3) pe_int (nomark _))
 (pss_cons (ps_par (i := 4) (j := 5) (by rfl) sc_law_spoilt.nd rfl rfl (by decide) rfl rfl (pa_cons (pe_callF G_law_draw (hr.mono (by decide)) (by rfl) pass0 (pa_cons (pv 0) (pa_cons (pe_op op_add (pe_callB call_len_str (by rfl) Y.len PySem.boot_len (pa_cons (pv 1) pa_nil)) pe_int) pa_nil))) (pa_cons (pe_ix ix_str pe_str (pe_callF G_law_draw (hr.mono (by decide)) (by rfl) pass0 (pa_cons (pv 0) (pa_cons pe_int pa_nil))) (fun _ _ => rfl)) pa_nil)) (by rfl))
 (pss_one (ps_ret (pe_ix ix_list (pe_lst (pa_cons (pe_op op_add_str (pe_op op_add_str (pe_slice sl_str (pv 1) po_none (po_some (pv 4))) (pv 5)) (pe_slice sl_str (pv 1) (po_some (pv 4)) po_none)) (pa_cons (pe_op op_add_str (pe_slice sl_str (pv 1) po_none (po_some (pv 4))) (pe_slice sl_str (pv 1) (po_some (pe_op op_add (pv 4) pe_int)) po_none)) pa_nil))) (pe_op op_sub (pv 3) pe_int) (fun _ _ => rfl)))))
 pss_nil)
 (pss_one (ps_ret (pe_join pe_str (pe_callF G_law_lines_spoilt (hr.mono (by decide)) (by rfl) pass0 (pa_cons (pv 0) (pa_cons (pe_split (pv 1) pe_str) (pa_cons (pv 2) pa_nil))))))))))), ?_⟩
    refine ⟨_, rfl, r, 7, rfl, R, by decide, by decide, fun H1 wy b1 R1 w0 w1 => ?_⟩
    have hlm1 := b1 _ _ nlm hlm
    refine ⟨_, rfl, rfl, _, rfl, ite2 (fun c => ?_) (fun c => ?_)⟩
    · refine ⟨_, rfl, (by show 1 ≤ sizeLine; decide), fun La nLa => ?_⟩
      generalize hg : upd H1 La _ = H2
      obtain ⟨s2, gLa⟩ := upd_new hg nLa
      clear hg
      have R2 := R1.same s2
      have n_La := R1.ne nLa
      refine ⟨_, rfl, (by show 1 ≤ sizeLine; decide), fun t o nt st zt => ?_⟩
      generalize upd H2 t o = H3 at st zt ⊢
      have R3 := R2.same st
      have gLa := st _ _ gLa
      refine fun D nD => ?_
      generalize hg : upd H3 D _ = H4
      obtain ⟨s4, gD⟩ := upd_new hg nD
      clear hg
      have R4 := R3.same s4
      have n_D := R3.ne nD
      have gLa := s4 _ _ gLa
      have zt := zt.same s4
      refine ⟨Nat.zero_le _, fun L2 nL2 => ?_⟩
      generalize hg : upd H4 L2 _ = H5
      obtain ⟨s5, gL2⟩ := upd_new hg nL2
      clear hg
      have R5 := R4.same s5
      have n_L2 := R4.ne nL2
      have gLa := s5 _ _ gLa
      have gD := s5 _ _ gD
      have zt := zt.same s5
      refine ⟨(by show 12 ≤ sizeLine; decide), fun L nL => ?_⟩
      generalize hg : upd H5 L _ = H6
      obtain ⟨s6, gL⟩ := upd_new hg nL
      clear hg
      have R6 := R5.same s6
      have n_L := R5.ne nL
      have gLa := s6 _ _ gLa
      have gD := s6 _ _ gD
      have gL2 := s6 _ _ gL2
      have zt := zt.same s6
      have db : Dbs K r H6 [.non, .int 7, .bl true, .ref La, .ref t, .ref D, .str "", .str "\n", .str " ", .int 0, .bl false, .ref L2] [.none, .int 7, .bool true, .list [.str x], .tuple [.str x], .dict [], .str "", .str "\n", .str " ", .int 0, .bool false, .list []] :=
        .cons .non (.cons (.int _) (.cons (.bl _) (.cons (.lst n_La gLa (.cons (.str _) .nil)) (.cons (.tup R6 zt (.cons (.str _) .nil)) (.cons (.dic n_D gD) (.cons (.str _) (.cons (.str _) (.cons (.str _) (.cons (.int _) (.cons (.bl _) (.cons (.lst n_L2 gL2 .nil) .nil)))))))))))
      refine ⟨_, rfl, r, 12, rfl, R6, by decide, by decide, fun H7 e b7 R7 e0 e1 => ?_⟩
      have gL := b7 _ _ n_L gL
      have b17 : But r H1 H7 := (But.of ((((s2.trans st).trans s4).trans s5).trans s6)).trans b7
      obtain ⟨v, hv, mv⟩ := at_inL gL rfl e0 e1
      obtain ⟨d, hd, dv⟩ := (db.but b7).mem mv
      refine ⟨L, _, e, v, rfl, rfl, SqL.of gL, hv, q _ v d (b1.trans b17) R7 dv fun y ey => ?_⟩
      subst ey
      simp only [List.mem_cons, List.not_mem_nil, or_false, PyData.str.injEq, reduceCtorEq, false_or] at hd
      rcases hd with rfl | rfl | rfl
      all_goals exact step (Nat.le_trans (show _ ≤ 1 by decide +kernel) (by omega)) (Nat.le_trans (show _ ≤ 1 by decide +kernel) (by omega)) (Nat.le_trans (show _ ≤ 6 by decide +kernel) (by omega)) (by unfold As; decide +kernel)
    have w00 : wy ≠ 0 := fun z => c (decide_eq_true (by rw [z]))
    clear c
    have fin : ∀ {H' : Hp} {y : Str}, But r H1 H' → Rng H' r → Tb (n + 1) y → Q (.str y) H' := fun b R t => q _ _ _ (b1.trans b) R (.str _) fun z e => by injection e with e; subst e; exact t
    have lit : ∀ {y : Str}, (y.length ≤ 1 ∧ cn 10 y ≤ 1 ∧ cn 32 y ≤ 1 ∧ As y) → Tb (n + 1) (y ++ x) ∧ Tb (n + 1) (x ++ y) := fun {y} ⟨h1, h2, h3, h4⟩ =>
      ⟨step (by rw [len_app]; omega) (by rw [cn_app]; omega) (by rw [cn_app]; omega) (as_app h4 tb.as), step (by rw [len_app]; omega) (by rw [cn_app]; omega) (by rw [cn_app]; omega) (as_app tb.as h4)⟩
    refine ⟨_, rfl, rfl, _, rfl, ite2 (fun c => ?_) (fun c => ?_)⟩
    · clear c
      refine ⟨_, rfl, 1, rfl, -1, rfl, x, rfl, le200 (by omega), ?_⟩
      refine ⟨_, rfl, x, "\n", rfl, rfl, le200 (by have : ("\n" : Str).length = 1 := rfl; omega), ?_⟩
      refine ⟨_, rfl, " ", x, rfl, rfl, le200 (by have : (" " : Str).length = 1 := rfl; omega), ?_⟩
      refine ⟨_, rfl, "\n", x, rfl, rfl, le200 (by have : ("\n" : Str).length = 1 := rfl; omega), ?_⟩
      refine ⟨_, rfl, ⟨_, rfl⟩, x, rfl, rfl, by omega, ?_⟩
      refine ⟨_, rfl, x, "x", rfl, rfl, le200 (by have : ("x" : Str).length = 1 := rfl; omega), (by show 6 ≤ sizeLine; decide), fun L nL => ?_⟩
      generalize hg : upd H1 L _ = H6
      obtain ⟨s6, gL⟩ := upd_new hg nL
      clear hg
      have n_L := R1.ne nL
      refine ⟨_, rfl, r, 6, rfl, R1.same s6, by decide, by decide, fun H7 e b7 R7 e0 e1 => ?_⟩
      have gL := b7 _ _ n_L gL
      obtain ⟨v, hv, mv⟩ := at_inL gL rfl e0 e1
      have ty : ∃ y, v = .str y ∧ Tb (n + 1) y := by
        simp only [List.mem_cons, List.not_mem_nil, or_false] at mv
        rcases mv with rfl | rfl | rfl | rfl | rfl | rfl
        · obtain ⟨k, hk⟩ := tl_cut_last x
          have l := le_sub (y := cutS x none (some (-1))) (x := x) (by rw [hk]; exact List.take_sublist ..)
          exact ⟨_, rfl, step (by have := l.ln; omega) (by have := l.c0; omega) (by have := l.c2; omega) (l.as tb.as)⟩
        · exact ⟨_, rfl, (lit ⟨by decide +kernel, by decide +kernel, by decide +kernel, by unfold As; decide +kernel⟩).2⟩
        · exact ⟨_, rfl, (lit ⟨by decide +kernel, by decide +kernel, by decide +kernel, by unfold As; decide +kernel⟩).1⟩
        · exact ⟨_, rfl, (lit ⟨by decide +kernel, by decide +kernel, by decide +kernel, by unfold As; decide +kernel⟩).1⟩
        · obtain ⟨u1, u2, u3, u4⟩ := up_ok tb.as
          exact ⟨_, rfl, step (by omega) (by omega) (by omega) u4⟩
        · exact ⟨_, rfl, (lit ⟨by decide +kernel, by decide +kernel, by decide +kernel, by unfold As; decide +kernel⟩).2⟩
      obtain ⟨y, rfl, ty⟩ := ty
      exact ⟨L, _, e, .str y, rfl, rfl, SqL.of gL, hv, fin ((But.of s6).trans b7) R7 ty⟩
    have w01 : wy ≠ 1 := fun z => c (decide_eq_true (by rw [z]))
    clear c
    refine ⟨_, rfl, _, _, rfl, rfl, _, rfl, ite2 (fun c => ?_) (fun c => ?_)⟩
    · have w4 : wy < 4 := of_decide_eq_true c
      refine ⟨_, rfl, _, rfl, x, rfl, le200 (by omega), _, _, rfl, rfl, r, _, rfl, R1, by omega, by omega, fun H2 e b2 R2 e0 e1 => ?_⟩
      obtain ⟨i, rfl⟩ := Int.eq_ofNat_of_zero_le e0
      refine ⟨_, rfl, r, 12, rfl, R2, by decide, by decide, fun H3 d b3 R3 d0 d1 => ?_⟩
      obtain ⟨c, hc, mc⟩ := at_in (xs := (" \n,0129abAZ-" : Str).cps.toList) d0 (by rw [show (((" \n,0129abAZ-" : Str).cps.toList.length : Nat) : Int) = 12 by decide +kernel]; exact d1)
      have c128 : c < 128 := (show ∀ c ∈ (" \n,0129abAZ-" : Str).cps.toList, c < 128 by decide +kernel) c mc
      refine ⟨" \n,0129abAZ-", d, c, rfl, rfl, (by decide), hc, _, _, rfl, ?_⟩
      have s1 : (⟨#[c]⟩ : Str).length = 1 := rfl
      have s2 : ∀ k, cn k (⟨#[c]⟩ : Str) ≤ 1 := fun k => (List.count_le_length (l := [c]))
      have s3 : As (⟨#[c]⟩ : Str) := fun k hk => by
        have hk : k ∈ [c] := hk
        rw [List.mem_singleton.mp hk]
        exact c128
      obtain ⟨a1, a2, a3⟩ := le_split x i i (Nat.le_refl _)
      obtain ⟨f1, f2, f3⟩ := le_split x i (i + 1) (Nat.le_succ _)
      have a10 := a2 10
      have a32 := a2 32
      have f10 := f2 10
      have f32 := f2 32
      have s10 := s2 10
      have s32 := s2 32
      have ii : ((i : Nat) : Int) + 1 = ((i + 1 : Nat) : Int) := by omega
      refine ⟨_, rfl, _, rfl, _, rfl, x, rfl, le200 (by omega), _, rfl, _, _, rfl, rfl, le200 (by omega), _, rfl, _, rfl, _, rfl, x, rfl, le200 (by omega), _, _, rfl, rfl, le200 (by rw [len_app]; omega), ?_⟩
      refine ⟨_, rfl, _, rfl, _, rfl, x, rfl, le200 (by omega), _, rfl, _, rfl, _, _, rfl, rfl, _, rfl, x, rfl, le200 (by omega), _, _, rfl, rfl, le200 (by rw [ii]; omega), (by show 2 ≤ sizeLine; decide), fun L nL => ?_⟩
      rw [ii]
      generalize hg : upd H3 L _ = H6
      obtain ⟨s6, gL⟩ := upd_new hg nL
      clear hg
      have b16 : But r H1 H6 := (b2.trans b3).trans (But.of s6)
      have tA : Tb (n + 1) (cutS x none (some (i : Int)) ++ ⟨#[c]⟩ ++ cutS x (some (i : Int)) none) := step (by rw [len_app, len_app]; omega) (by rw [cn_app, cn_app]; omega) (by rw [cn_app, cn_app]; omega) (as_app (as_app (a3 tb.as).1 s3) (a3 tb.as).2)
      have tB : Tb (n + 1) (cutS x none (some (i : Int)) ++ cutS x (some ((i + 1 : Nat) : Int)) none) := step (by rw [len_app]; omega) (by rw [cn_app]; omega) (by rw [cn_app]; omega) (as_app (f3 tb.as).1 (f3 tb.as).2)
      have w23 : wy = 2 ∨ wy = 3 := by omega
      rcases w23 with rfl | rfl
      · exact ⟨_, rfl, _, _, rfl, rfl, L, _, 0, _, rfl, rfl, SqL.of gL, atI_nat (j := 0) rfl, fin b16 (R3.same s6) tA⟩
      · exact ⟨_, rfl, _, _, rfl, rfl, L, _, 1, _, rfl, rfl, SqL.of gL, atI_nat (j := 1) rfl, fin b16 (R3.same s6) tB⟩
    · refine ⟨⟨_, rfl⟩, ?_⟩
      refine ⟨_, rfl, _, rfl, ⟨_, rfl⟩, _, _, rfl, rfl, rfl, le200 (by omega), fun Ll nl => ?_⟩
      generalize hg : upd H1 Ll _ = H2
      obtain ⟨s2, gl⟩ := (show Same H1 H2 ∧ H2 Ll = some (.lst ((Txt.split x "\n").map V.str)) by rw [← hg]; exact ⟨same_upd nl, upd_same⟩)
      clear hg
      refine ⟨_, rfl, r, Ll, lm, Txt.split x "\n", menu, rfl, R1.same s2, R1.ne nl, nlm, gl, s2 _ _ hlm1, split_neL x, by rw [lines_len2]; omega, fun l hl => ⟨nf_line hl, by have := part_le x hl; omega⟩, mn, fun H3 L ls' b3 R3 g3 mz => ?_⟩
      have jl := join_ln2 "\n" (split_neL x)
      rw [StrLaws.join_split x "\n", show ("\n" : Str).length = 1 from rfl] at jl
      have ll := lines_len2 x
      have m1 := mz.m1
      have me := mz.le
      refine ⟨_, L, ls', rfl, rfl, .inl (SqL.of g3), ?_, fin ((But.of s2).trans b3) R3 (tb.lines mz)⟩
      show ms Str.length ls' + ls'.length * 1 ≤ 16777216
      omega
end
end My

namespace My
open PySem PySem.Spec PyProof.Rows L2 Gy Xl Xs Xt Xo Xp
theorem nm_cn {x : Str} (h : Nm x) : cn 10 x = 0 ∧ cn 32 x = 0 ∧ As x := by
  obtain ⟨h1, h2⟩ := nm_free h
  refine ⟨List.count_eq_zero.mpr h1, List.count_eq_zero.mpr h2, fun c hc => ?_⟩
  have : c ∈ LET.cps.toList := h.2.2 c hc
  exact (show ∀ c ∈ LET.cps.toList, c < 128 by decide +kernel) c this
theorem ms_le {f : Str → Nat} {m : Nat} : ∀ {ls : List Str}, (∀ l ∈ ls, f l ≤ m) → ms f ls ≤ ls.length * m
  | [], _ => Nat.zero_le _
  | x :: ls, h => by
    rw [ms_cons, List.length_cons, Nat.add_mul, Nat.one_mul]
    have a := h x List.mem_cons_self
    have b := ms_le (ls := ls) fun y hy => h y (List.mem_cons_of_mem _ hy)
    omega
theorem tx_tb {ns : List Str} {ls : List (Str × Str)} (tk : Tk ns ls) (l : ns.length + ls.length ≤ 15) : Tb 0 (txT ns ls) := by
  have e : txT ns ls = Str.join "\n" (linesT ns ls ++ [("" : Str)]) := by
    unfold txT
    rw [join_nl, TL.join_eq]
  have ne : linesT ns ls ++ [("" : Str)] ≠ [] := by simp
  have len : (linesT ns ls ++ [("" : Str)]).length = ns.length + ls.length + 1 := by rw [List.length_append, lines_len tk]; rfl
  have j1 := join_ln2 "\n" ne
  have j2 := join_tl 10 "\n" ne
  have j3 := join_tl 32 "\n" ne
  rw [← e, len, ms_app, ms_cons, ms_nil] at j1 j2 j3
  rw [show ("\n" : Str).length = 1 from rfl, show ("" : Str).length = 0 from rfl] at j1
  rw [show cn 10 "\n" = 1 by decide +kernel, show cn 10 "" = 0 by decide +kernel] at j2
  rw [show cn 32 "\n" = 0 by decide +kernel, show cn 32 "" = 0 by decide +kernel] at j3
  have per : ∀ l ∈ linesT ns ls, cn 32 l ≤ 2 ∧ cn 10 l = 0 ∧ As l := fun l hl => by
    rcases List.mem_append.mp hl with hl | hl
    · obtain ⟨y, hy, rfl⟩ := List.mem_map.mp hl
      obtain ⟨a, b, c⟩ := nm_cn (tk.nmS y hy)
      unfold hostL
      refine ⟨?_, ?_, as_app (by unfold As; decide +kernel) c⟩
      · rw [cn_app, b, show cn 32 "host " = 1 by decide +kernel]
        omega
      · rw [cn_app, a, show cn 10 "host " = 0 by decide +kernel]
    · obtain ⟨p, hp, rfl⟩ := List.mem_map.mp hl
      obtain ⟨n1, n2⟩ := lks_nm tk p hp
      obtain ⟨a, b, c⟩ := nm_cn n1
      obtain ⟨a2, b2, c2⟩ := nm_cn n2
      unfold linkL
      refine ⟨?_, ?_, as_app (as_app (as_app (by unfold As; decide +kernel) c) (by unfold As; decide +kernel)) c2⟩
      · rw [cn_app, cn_app, cn_app, b, b2, show cn 32 "link " = 1 by decide +kernel, show cn 32 " " = 1 by decide +kernel]
        omega
      · rw [cn_app, cn_app, cn_app, a, a2, show cn 10 "link " = 0 by decide +kernel, show cn 10 " " = 0 by decide +kernel]
  have m1 := ms_le (f := Str.length) (lines_le tk)
  have m2 := ms_le (f := cn 10) (m := 0) fun l hl => Nat.le_of_eq (per l hl).2.1
  have m3 := ms_le (f := cn 32) fun l hl => (per l hl).1
  rw [lines_len tk] at m1 m2 m3
  refine ⟨by show _ ≤ 400 * 1 + 40 * 0; omega, by omega, by show _ ≤ 30 * 1 + 6 * 0; omega, ?_⟩
  rw [e]
  refine as_join (by unfold As; decide +kernel) fun l hl => ?_
  rcases List.mem_append.mp hl with hl | hl
  · exact (per l hl).2.2
  · rw [List.mem_singleton.mp hl]
    unfold As
    decide +kernel
def menuT (a b : Str) : List Str := ["host a", "host zzzzzzzz", "host", "link a b", "link " ++ a ++ " " ++ b, "", "events", "host A", "link " ++ b ++ " " ++ a, "Host a", "link " ++ a ++ " " ++ a, "write a b"]
theorem lk_ok {a b : Str} (ha : Nm a) (hb : Nm b) : NF ("link " ++ a ++ " " ++ b) ∧ ("link " ++ a ++ " " ++ b).length ≤ 30 ∧ cn 32 ("link " ++ a ++ " " ++ b) ≤ 4 ∧ As ("link " ++ a ++ " " ++ b) := by
  obtain ⟨a1, a2, a3⟩ := nm_cn ha
  obtain ⟨b1, b2, b3⟩ := nm_cn hb
  have la := ha.2.1
  have lb := hb.2.1
  refine ⟨?_, ?_, ?_, as_app (as_app (as_app (by unfold As; decide +kernel) a3) (by unfold As; decide +kernel)) b3⟩
  · unfold NF
    rw [cn_app, cn_app, cn_app, a1, b1, show cn 10 "link " = 0 by decide +kernel, show cn 10 " " = 0 by decide +kernel]
  · rw [len_app, len_app, len_app, show ("link " : Str).length = 5 from rfl, show (" " : Str).length = 1 from rfl]
    omega
  · rw [cn_app, cn_app, cn_app, a2, b2, show cn 32 "link " = 1 by decide +kernel, show cn 32 " " = 1 by decide +kernel]
    omega
theorem menu_ok {a b : Str} (ha : Nm a) (hb : Nm b) : Mn (menuT a b) := by
  refine ⟨by unfold menuT; simp, by unfold menuT; show 12 ≤ 20; decide, fun m hm => ?_⟩
  unfold menuT at hm
  simp only [List.mem_cons, List.not_mem_nil, or_false] at hm
  rcases hm with rfl | rfl | rfl | rfl | rfl | rfl | rfl | rfl | rfl | rfl | rfl | rfl
  case inr.inr.inr.inr.inl => exact lk_ok ha hb
  case inr.inr.inr.inr.inr.inr.inr.inr.inl => exact lk_ok hb ha
  case inr.inr.inr.inr.inr.inr.inr.inr.inr.inr.inl => exact lk_ok ha ha
  all_goals exact ⟨by unfold NF; decide +kernel, by decide +kernel, by decide +kernel, by unfold As; decide +kernel⟩
theorem due_ok {d : PyData} (h : OkV d) : Fits (dueD d) ∧ PyData.strOk (dueD d).shown = true := by
  by_cases c : ∃ x, d = .str x
  · obtain ⟨x, rfl⟩ := c
    obtain ⟨_, l60, _⟩ := h x rfl
    cases e : textF x with
    | inr n =>
      rw [dueD_r e]
      have := textF_le e
      exact int_fits (by omega)
    | inl t =>
      obtain ⟨hs, ks⟩ := t
      rw [dueD_l e]
      have r := right_text e
      have := r.ln
      exact tree_fits r.nm (fun p hp => ⟨r.nm _ (r.tk.en p hp).1, r.nm _ (r.tk.en p hp).2⟩) (by omega) (by omega)
  · rw [dueD_no fun x e => c ⟨x, e⟩]
    exact int_fits (n := 0) (by decide)
theorem dp2 {K : PySem.W.Frag} {H : Hp} {l : Addr} {s : Str} (h : H l = some (.lst [.str s, .str s])) : Dp K H (.ref l) (.list [.str s, .str s]) := .lst (SqL.of h) (.cons (.str _) (.cons (.str _) .nil))
theorem sh2 {s : Str} (h : PyData.strOk s = true) : SeqAt.shaped (.list [.str s, .str s]) = true := by
  have e : (PyData.list [.str s, .str s]).canLay0 = true := by
    show (PyData.strOk s && (PyData.strOk s && true)) = true
    rw [h]
    rfl
  unfold SeqAt.shaped
  rw [e]
  rfl
theorem eqv2 (s : Str) : PyData.eqv (.list [.str s, .str s]) (.list [.str s, .str s]) = true := by
  have := eqv_strs [s, s] [s, s]
  rw [decide_eq_true rfl] at this
  exact this
section
variable {P : Program} {w : World} {K : PySem.W.Frag} {mg : Str → Option Value} {base : Heap} {H : Hp} {C CI : Addr}
def spRight : Sp := fun vs H Q _ => ∃ r : Addr, vs = [.ref r] ∧ Rng H r ∧ ∀ H', But r H H' → Q (.bl true) H'
theorem ok_right {f : Addr} {fd : FuncData} (F : Fun K "_law_right" "_law_right" s_law_right f fd) (Y : Bn mg) (gT : mg "Tree" = some (.ref C))
    (G_law_draw : Fk P w K mg base CX0 1 "_law_draw" ["_law_rng_here", "_law_many"] spDraw) (G_law_names : Fk P w K mg base CX0 2 "_law_names" ["_law_rng_here", "_law_many"] spNames) (G_law_links : Fk P w K mg base CX0 3 "_law_links" ["_law_rng_here", "_law_names_here"] spLksD)
    (G_tree_text : Fk P w K mg base CX0 2 "tree_text" ["tree"] (spTT C)) (G_law_spoilt : Fk P w K mg base CX0 3 "_law_spoilt" ["_law_rng_here", "_law_text", "_law_menu"] (spSpo K)) (G_law_read : Fk P w K mg base CX0 3 "_law_read" ["_law_text"] (spRead K)) (G_law_told : Fg P w K mg base CX0 11 "_law_told" ["_law_text"] (spTold K))
    (MI : ∃ (fI : Addr) (fdI : FuncData), Mk K C fI ∧ Binds K fdI ["self", "hosts", "links"] [] ∧ FnOk P w K mg base (L2N.CX P w) 7 fI fdI ["self", "hosts", "links"] (spInit K C CI)) : FnG P w K mg base CX0 12 f fd ["_law_rng_here"] spRight := by
  obtain ⟨fI, fdI, MMk, BI, FI⟩ := MI
  refine fun_g0 F sc_law_right (fun {vs H Q E} h => ?_) (fun cdv A outer s H vs Q E gd hr h => ?_)
  · obtain ⟨r, rfl, _⟩ := h
    rfl
  · obtain ⟨r, rfl, R, q⟩ := h
    have hu70 := Room.units70 hr
    have hu64 := hr.units
    refine ⟨_, (pss_cons (ps_set (i := 1) sc_law_right.nd rfl (.inl rfl) (pe_callF G_law_names (hr.mono (by decide)) (by rfl) pass0 (pa_cons (pv 0) (pa_cons (pe_op op_add pe_int (pe_callF G_law_draw (hr.mono (by decide)) (by rfl) pass0 (pa_cons (pv 0) (pa_cons pe_int pa_nil)))) pa_nil))))
 (pss_cons (ps_set (i := 2) sc_law_right.nd rfl (.inl rfl) (pe_callF G_tree_text (hr.mono (by decide)) (by rfl) pass0 (pa_cons (pe_make (E := fun _ _ _ => False) MMk FI (hr.mono (by decide)) (by rfl) gT BI .nil passNN (pa_cons (pv 1) (pa_cons (pe_callF G_law_links (hr.mono (by decide)) (by rfl) pass0 (pa_cons (pv 0) (pa_cons (pv 1) pa_nil))) pa_nil))) pa_nil)))
 (pss_cons (ps_par (i := 3) (j := 4) (by rfl) sc_law_right.nd rfl rfl (by decide) rfl rfl (pa_cons (pe_ix ix_list (pv 1) pe_int (fun _ _ => rfl)) (pa_cons (pe_ix ix_list (pv 1) (pe_un un_neg pe_int) (fun _ _ => rfl)) pa_nil)) (by rfl))
 (pss_cons (ps_set (i := 5) sc_law_right.nd rfl (.inl rfl) (pe_lst (pa_cons pe_str (pa_cons pe_str (pa_cons pe_str (pa_cons pe_str (pa_cons (pe_op op_add_str (pe_op op_add_str (pe_op op_add_str pe_str (pv 3)) pe_str) (pv 4)) (pa_cons pe_str (pa_cons pe_str (pa_cons pe_str pa_nil))))))))))
 (pss_cons (ps_set (i := 5) sc_law_right.nd rfl (.inl rfl) (pe_op op_cat (pv 5) (pe_lst (pa_cons (pe_op op_add_str (pe_op op_add_str (pe_op op_add_str pe_str (pv 4)) pe_str) (pv 3)) (pa_cons pe_str (pa_cons (pe_op op_add_str (pe_op op_add_str (pe_op op_add_str pe_str (pv 3)) pe_str) (pv 3)) (pa_cons pe_str pa_nil)))))))
 (pss_cons (ps_for PassesOwn.never rfl (pi_range1 (by rfl) Y.range (pa_cons (pe_callF G_law_draw (hr.mono (by decide)) (by rfl) pass0 (pa_cons (pv 0) (pa_cons pe_int pa_nil))) pa_nil)) (pg_name (i := 6) sc_law_right.nd rfl (Or.inl rfl))
 (pss_one (ps_if (PW.pt (pw_and (pt_val (pe_callB call_isi (by rfl) Y.isinstance (by decide +kernel) (pa_cons (pv 2) (pa_cons (pe_bltn (v := .ty "str") (by rfl) Y.str (by decide +kernel) rfl) pa_nil)))) (pw_and1 (pt_cmpR op_ne (pv 2) pe_str (nomark _)))))
 (pss_one (ps_set (i := 2) sc_law_right.nd rfl (.inl rfl) (pe_callF G_law_spoilt (hr.mono (by decide)) (by rfl) pass0 (pa_cons (pv 0) (pa_cons (pv 2) (pa_cons (pv 5) pa_nil))))))
 pss_nil)))
 (pss_cons (ps_set (i := 7) sc_law_right.nd rfl (.inl rfl) (pe_callB (show CallR _ (.builtin "repr") (rReprN K) from repr_dn gd hu70) (by rfl) Y.repr (by decide +kernel) (pa_cons (pe_callF G_law_read (hr.mono (by decide)) (by rfl) pass0 (pa_cons (pv 2) pa_nil)) pa_nil)))
 (pss_one (ps_ret (pe_cmpR (op_eqD hu64) (pe_lst (pa_cons (pe_callFg (E := E0) G_law_told gd (hr.mono (by decide)) (by rfl) pass0 (pa_cons (pv 2) pa_nil)) (pa_cons (pe_callFg (E := E0) G_law_told gd (hr.mono (by decide)) (by rfl) pass0 (pa_cons (pv 2) pa_nil)) pa_nil))) (pe_lst (pa_cons (pv 7) (pa_cons (pv 7) pa_nil))) (nomark _))))))))))), ?_⟩
    refine ⟨_, rfl, _, rfl, r, 8, rfl, R, by decide, by decide, fun H1 d b1 R1 d0 d1 => ?_⟩
    obtain ⟨d, rfl⟩ := Int.eq_ofNat_of_zero_le d0
    refine ⟨_, _, rfl, rfl, r, d + 1, (by show [V.ref r, V.int (1 + (d : Int))] = _; rw [show (1 : Int) + (d : Int) = ((d + 1 : Nat) : Int) by omega]), R1, by omega, fun H2 L ns b2 R2 nL hL el nm nd => ?_⟩
    have neL := R1.ne nL
    have nn : ns ≠ [] := fun z => by rw [z] at el; cases el
    refine ⟨_, rfl, _, rfl, _, rfl, r, L, ns, rfl, R2, neL, hL, by omega, nn, nm, nd, fun H3 M us ls b3 R3 nM hM pr tk ll => ?_⟩
    have hL3 := b3 _ _ neL hL
    have b03 : But r H H3 := (b1.trans b2).trans b3
    have tf := treeF_ok tk (dh := .list (ns.map PyData.str)) (dl := .list (ls.map prD)) rfl rfl
    intro x dx nx ndx nex
    refine ⟨x, dx, _, _, .list (ns.map PyData.str), .list (ls.map prD), H3, rfl, upd_same, (same_upd2 (same_upd ndx) nx), nx, .lst hL3 (dns_tx _), .lst hM pr.dns, fun ds e => ?_, fun ds e => ?_, fun e he => ?_, fun ns' ls' he H4 s4 t4 => ⟨rfl, ?_⟩⟩
    · cases e
      refine ⟨by rw [List.length_map]; omega, fun d hd => ?_⟩
      obtain ⟨x, hx, rfl⟩ := List.mem_map.mp hd
      exact decide_eq_true (by have := (nm x hx).2.1; omega)
    · cases e
      refine ⟨by rw [List.length_map]; omega, fun d hd => ?_⟩
      obtain ⟨p, hp, rfl⟩ := List.mem_map.mp hd
      have m1 := (nm _ (tk.en p hp).1).2.1
      have m2 := (nm _ (tk.en p hp).2).2.1
      exact sml_tw (p := [p.1, p.2]) (by show 2 ≤ 900; decide) fun z hz => by
        rcases List.mem_cons.mp hz with rfl | hz
        · omega
        · rw [List.mem_singleton.mp hz]
          omega
    · rw [tf] at he
      cases he
    rw [tf] at he
    cases he
    refine ⟨x, ns, ls, rfl, t4.same (nw_same _ _), tk, by omega, by omega, fun H5 s5 => ?_⟩
    have s35 := s4.trans s5
    have R5 := R3.same s35
    have hL5 := s35 _ _ hL3
    have b05 := b03.trans (But.of s35)
    have tb0 := tx_tb tk (by omega)
    obtain ⟨fa, ft, ef⟩ := List.exists_cons_of_ne_nil nn
    obtain ⟨li, la, el2⟩ : ∃ a b, ns = a ++ [b] := by
      rcases List.eq_nil_or_concat ns with h | ⟨a, b, h⟩
      · exact absurd h nn
      · exact ⟨a, b, by rw [h, List.concat_eq_append]⟩
    have nf : Nm fa := nm fa (by rw [ef]; exact List.mem_cons_self)
    have nl : Nm la := nm la (by rw [el2]; exact List.mem_append_right _ List.mem_cons_self)
    have f8 := nf.2.1
    have l8 := nl.2.1
    refine ⟨_, rfl, L, _, 0, .str fa, rfl, rfl, SqL.of hL5, atI_nat (j := 0) (by rw [ef]; rfl), _, rfl, 1, rfl, L, _, -1, .str la, rfl, rfl, SqL.of hL5, (by rw [el2]; exact last_is _ _), _, _, rfl, ?_⟩
    have x5 : ("link " : Str).length = 5 := rfl
    have x1 : (" " : Str).length = 1 := rfl
    refine ⟨_, rfl, "link ", fa, rfl, rfl, le200 (by omega), _, " ", rfl, rfl, le200 (by rw [len_app]; omega), _, rfl, _, la, rfl, rfl, le200 (by rw [len_app, len_app]; omega), (by show 8 ≤ sizeLine; decide), fun Ma nMa => ?_⟩
    generalize hg : upd H5 Ma _ = H6
    obtain ⟨s6, gMa⟩ := upd_new hg nMa
    clear hg
    refine ⟨_, rfl, _, rfl, "link ", la, rfl, rfl, le200 (by omega), _, " ", rfl, rfl, le200 (by rw [len_app]; omega), _, rfl, _, fa, rfl, rfl, le200 (by rw [len_app, len_app]; omega), ?_⟩
    refine ⟨_, rfl, "link ", fa, rfl, rfl, le200 (by omega), _, " ", rfl, rfl, le200 (by rw [len_app]; omega), _, rfl, _, fa, rfl, rfl, le200 (by rw [len_app, len_app]; omega), (by show 4 ≤ sizeLine; decide), fun Mb nMb => ?_⟩
    generalize hg : upd H6 Mb _ = H7
    obtain ⟨s7, gMb⟩ := upd_new hg nMb
    clear hg
    refine ⟨Ma, Mb, _, _, rfl, rfl, s7 _ _ gMa, gMb, (by show 12 ≤ sizeLine; decide), fun Mc nMc => ?_⟩
    generalize hg : upd H7 Mc _ = H8
    obtain ⟨s8, gMc⟩ := upd_new hg nMc
    clear hg
    have gMc : H8 Mc = some (.lst ((menuT fa la).map V.str)) := gMc
    have s58 := (s6.trans s7).trans s8
    have R8 := R5.same s58
    have n_Mc : Mc ≠ r := (R5.same (s6.trans s7)).ne nMc
    have b08 := b05.trans (But.of s58)
    have mok := menu_ok nf nl
    refine ⟨_, rfl, r, 3, rfl, R8, by decide, by decide, fun H9 e b9 R9 e0 e1 => ⟨e, rfl, by omega, by omega, for_it (walk_range (lo := 0) (n := e.toNat)) (fun i σ H' => ∃ a6 v d, σ = [some (.ref r), some (.ref L), some v, some (.str fa), some (.str la), some (.ref Mc), a6, none] ∧ But r H H' ∧ Rng H' r ∧ H' Mc = some (.lst ((menuT fa la).map V.str)) ∧ Db K r H' v d ∧ ∀ y, d = .str y → Tb i y)
      ⟨none, _, .str (txT ns ls), rfl, b08.trans b9, R9, b9 _ _ n_Mc gMc, .str _, fun y ey => by injection ey with ey; rw [← ey]; exact tb0⟩ (fun _ _ _ _ _ => trivial) ?_ ?_⟩⟩
    · rintro i y σ H10 H11 hi ⟨a6, v, d, rfl, b10, R10, gM, db, tbs⟩ ⟨rfl, rfl⟩
      have i1 : i ≤ 1 := by omega
      have stay : ∀ y, d = .str y → Tb (i + 1) y := fun y ey => (tbs y ey).step (by omega) (by omega) (by omega) (tbs y ey).as
      rcases strOr db.dn with ⟨x, rfl, rfl⟩ | ⟨nos, ty, t1, t2⟩
      · refine ⟨_, rfl, _, _, _, _, true, rfl, .ty "str", .base (.str _), kit_ty (by decide +kernel), _, rfl, iteT ?_⟩
        refine ⟨_, rfl, rfl, _, rfl, ite2 (fun c => ?_) (fun c => ?_)⟩
        · refine ⟨_, rfl, _, rfl, _, rfl, r, Mc, x, menuT fa la, i, rfl, R10, n_Mc, gM, mok, tbs x rfl, i1, fun H12 v' d' b12 R12 db' t' => ?_⟩
          exact ⟨_, _, d', rfl, b10.trans b12, R12, b12 _ _ n_Mc gM, db', t'⟩
        · exact ⟨_, _, _, rfl, b10, R10, gM, db, stay⟩
      · refine ⟨v, rfl, v, _, _, _, false, rfl, .ty "str", t1, kit_ty t2, _, rfl, iteF (iteF ?_)⟩
        exact ⟨_, _, d, rfl, b10, R10, gM, db, stay⟩
    · rintro σ H10 ⟨a6, v, d, rfl, b10, R10, gM, db, tbs⟩
      have ov : OkV d := fun y ey => (tbs y ey).okv (by omega) y rfl
      have dn := db.dn
      obtain ⟨ft, so⟩ := due_ok ov
      refine ⟨_, rfl, v, d, rfl, dn, ov, fun H11 v' s11 dn' => ?_⟩
      refine ⟨v', dueD d, rfl, dn', ft.1, ft.2.1, ft.2.2, ?_⟩
      have dn1 := dn.same s11
      refine ⟨_, rfl, v, d, rfl, dn1, ov, fun H12 s12 => ?_⟩
      have dn2 := dn1.same s12
      refine ⟨_, rfl, v, d, rfl, dn2, ov, fun H13 s13 => ?_⟩
      refine ⟨(by show 2 ≤ sizeLine; decide), fun A nA => ?_⟩
      generalize hg : upd H13 A _ = H14
      obtain ⟨s14, gA⟩ := upd_new hg nA
      clear hg
      refine ⟨_, rfl, _, rfl, (by show 2 ≤ sizeLine; decide), fun B nB => ?_⟩
      generalize hg : upd H14 B _ = H15
      obtain ⟨s15, gB⟩ := upd_new hg nB
      clear hg
      refine ⟨_, _, dp2 (s15 _ _ gA), dp2 gB, sh2 so, sh2 so, ?_⟩
      rw [eqv2]
      exact q _ (b10.trans (But.of ((((s11.trans s12).trans s13).trans s14).trans s15)))
def spLaw (K : PySem.W.Frag) : Sp := fun vs H Q _ => ∃ (a : Addr) (ns : List Int), vs = [.ref a] ∧ SqL K H a (ns.map V.int) ∧ ns.length ≤ 63 ∧ ∀ H', Q (.bl true) H'
theorem ok_law {f : Addr} {fd : FuncData} (F : Fun K "law" "law" s_law f fd) (Y : Bn mg) (G_law_rng : Fk P w K mg base CX0 1 "_law_rng" ["_law_script", "_law_k"] (spPot K))
    (G_law_right : Fg P w K mg base CX0 12 "_law_right" ["_law_rng_here"] spRight) : FnG P w K mg base CX0 13 f fd ["_law_script"] (spLaw K) := by
  refine fun_g0 F sc_law (fun {vs H Q E} h => ?_) (fun cdv A outer s H vs Q E gd hr h => ?_)
  · obtain ⟨a, ns, rfl, _⟩ := h
    rfl
  · obtain ⟨a, ns, rfl, hS, hn, q⟩ := h
    refine ⟨_, (pss_one (ps_ret (pe_callB (cr_all rfl) (by rfl) Y.all (by decide +kernel) (pa_cons (pe_lc (own := [("_law_k", 1)]) (g := gName 1) (tt := tYes) rfl sc_law.nd (pi_range1 (by rfl) Y.range (pa_cons (pe_callB (call_max2 rfl) (by rfl) Y.max (by decide +kernel) (pa_cons pe_int (pa_cons (pe_callB (call_min2 rfl) (by rfl) Y.min (by decide +kernel) (pa_cons pe_int (pa_cons (pe_callB call_len_seq (by rfl) Y.len PySem.boot_len (pa_cons (pv 0) pa_nil)) pa_nil))) pa_nil))) pa_nil)) (blkOk_by (N := ["_law_script", "_law_k"]) (sc := defScope s_law) (by decide +kernel)) (fun _ _ _ _ _ => (pg_name (i := 1) sc_law.nd rfl (Or.inl rfl))) (fun _ _ _ _ _ => pts_nil) (fun _ _ _ _ _ => (pe_callFg (E := E0) G_law_right gd hr (by rfl) pass0 (pa_cons (pe_callF G_law_rng (hr.mono (by decide)) (by rfl) pass0 (pa_cons (pv 0) (pa_cons (pv 1) pa_nil))) pa_nil)))) pa_nil)))), ?_⟩
    refine ⟨_, rfl, a, _, rfl, .inl hS, 8, _, rfl, 1, _, rfl, _, rfl, ?_, ?_, fun D1 nD1 => ?_⟩
    · rw [List.length_map]
      split <;> split <;> omega
    · rw [List.length_map]
      split <;> split <;> omega
    generalize hm : (Int.toNat _) = m
    have m6 : m ≤ 8 := by
      rw [List.length_map] at hm
      rw [← hm]
      split <;> split <;> omega
    refine lc_it (walk_range (lo := 0) (n := m)) (fun i H' => Same H H' ∧ H' D1 = some (.lst ((List.replicate i true).map V.bl))) ⟨same_upd nD1, upd_same⟩ (fun _ _ _ _ => trivial) ?_ ?_
    · rintro k y H1 H2 hk ⟨s1, hZ⟩ ⟨rfl, rfl⟩
      refine ⟨rfl, ?_⟩
      dsimp only [tYes]
      refine iteT ?_
      refine ⟨_, rfl, _, rfl, a, ns, k, (by show [V.ref a, V.int (0 + (k : Int))] = _; rw [Int.zero_add]), s1.seq hS, by omega, fun H3 r s3 nr R3 => ?_⟩
      refine ⟨r, rfl, R3, fun H4 b4 => ?_⟩
      have s4 : Same H2 H4 := fun b o e => b4 b o (fun z => by rw [z, nr] at e; cases e) (s3 b o e)
      refine ⟨_, s4 _ _ hZ, ?_, same_upd2 (s1.trans s4) nD1, ?_⟩
      · rw [List.length_map, List.length_replicate]
        exact small200 (by omega)
      · rw [upd_same, List.replicate_succ', List.map_append]
        rfl
    · rintro H1 ⟨s1, hZ⟩
      refine ⟨D1, _, rfl, SqL.of hZ, ?_⟩
      rw [all_true]
      exact q _
end
end My

namespace My
open PySem PySem.Spec PyProof.Rows L2 Gy Xl Xs Xt Xo Xp
theorem xb_mk {K : PySem.W.Frag} {x qual : Str} {st : Stmt} {f : Addr} {fd : FuncData} {ps ks : List Str} {g : List Value → List Value → List Value} {gV : List V → List V → List V} (F : Fun K x qual st f fd)
    (rel : ∀ {vs : List V} {us : List Value} {zs : List V} {ws : List Value}, Vals vs us → Vals zs ws → Vals (gV vs zs) (g us ws))
    (h : ∀ (kV doc pm : Value) (an : Option Addr) (cdv ct : Value) (b : Value) (us ws : List Value), (b :: g us ws).length = ps.length →
      bindArgs (PySem.W.fnOf x qual (defArgs st) (defBody st) (defScope st) .none kV doc pm an cdv ct) ⟨b :: us, ks.zip ws⟩ = pure (ps.zip (b :: g us ws))) : XB K fd ps ks g gV := by
  obtain ⟨oc, od, kV, doc, pm, an, cdv, ct, osl, rfl, lk, hcd⟩ := F.ex
  exact ⟨fun s b us ws _ hl => .of_eq (h kV doc pm an cdv ct b us ws hl), rel⟩
abbrev sI_InvalidTree : Stmt := inClass (top 3) 0
theorem scI_InvalidTree : FnScope ["self", "reason", "value"] ["self", "reason", "value"] (defScope sI_InvalidTree) := ⟨rfl, rfl, rfl, by decide +kernel, rfl, by decide +kernel, by decide +kernel⟩
theorem raw_InvalidTree {K : PySem.W.Frag} {c fI : Addr} {od an : Option Addr} {sl : Array (Option Value)} {oc kV dc pm cdv ct : Value}
    (ii : PySem.W.excInitIn K c [.type "ValueError", .type "Exception", .type "BaseException", .type "object"] "ValueError.__new__" = true) (ov : PySem.W.excOver K c [.type "ValueError", .type "Exception", .type "BaseException", .type "object"] = true) (sa : PySem.W.findIn K (.ref c) "__setattr__" = some (some (.builtin "object.__setattr__")))
    (ga : PySem.W.findIn K (.ref c) "__getattribute__" = some (some (.builtin "BaseException.__getattribute__"))) (gg : PySem.W.findIn K (.ref c) "__getattr__" = some none) (ca : PySem.W.findIn K (.ref c) "__class__" = some (some (.builtin "object.__class__")))
    (ex : PySem.W.subIn K (.ref c) (.type "BaseException") = some true) (ob : PySem.W.mroIn K c (.type "object") = some true) (hd : PySem.W.hasDictIn K c = true) (kp : PySem.W.keepIn K (.ref c) = true)
    (ty : PySem.W.typeIn K (.ref c) = some (.type "type")) (ini : PySem.W.findIn K (.ref c) "__init__" = some (some (.ref fI))) (tf : PySem.W.typeIn K (.ref fI) = some (.type "function"))
    (li : K.lookup fI = some ⟨oc, od, .func (PySem.W.fnOf "__init__" "InvalidTree.__init__" (defArgs sI_InvalidTree) (defBody sI_InvalidTree) (defScope sI_InvalidTree) .none kV dc pm an cdv ct), sl⟩) (ci : PySem.W.codeIn K cdv "InvalidTree.__init__" = true) (ki : PySem.W.keepIn K (.ref fI) = true)
    (n0 : PySem.W.findIn K (.ref c) "reason" = some none) (n1 : PySem.W.findIn K (.ref c) "value" = some none) : XCl K c ∧ ∀ (P : Program) (w : World) (mg : Str → Option Value) (base : Heap), mg "InvalidTree" = some (.ref c) → Rz2 P w K mg base "InvalidTree" "reason" "value" c := by
  have X : XCl K c := ⟨⟨_, _, _, _, PySem.F.excBase_ValueError, PySem.F.store_ValueError, ii, ov⟩, sa, ga, gg, ca, ex, ob, hd, kp⟩
  refine ⟨X, fun P w mg base gm => ?_⟩
  have F := fun_mk (st := sI_InvalidTree) li ci ki
  refine ⟨gm, ty, fI, _, ⟨X, ini, tf⟩, ?_, xb_mk F (fun r _ => r) fun _ _ _ _ _ _ b us ws hl => match us, hl with | [_, _], _ => rfl⟩
  refine F.ok scI_InvalidTree (fun vs H Q E h => ?_) (fun cdv A outer s H vs Q E hr h => ?_)
  · obtain ⟨a, v1, v2, rfl, _⟩ := h
    rfl
  · obtain ⟨a, v1, v2, rfl, ha, q⟩ := h
    exact ⟨_, pss_cons (ps_xs (pv 0) (pv 1)) (pss_one (ps_xs (pv 0) (pv 2))), v1, rfl, .ref a, rfl, a, c, rfl, X, n0, .inl ⟨ha, fun dx n ne => ⟨v2, rfl, .ref a, rfl, a, c, rfl, X, n1, .inr ⟨dx, _, upd_same, (upd_ne ne).trans upd_same, (by show 1 ≤ 900; decide), q dx n ne⟩⟩⟩⟩
abbrev sI_InvalidLine : Stmt := inClass (top 5) 0
theorem scI_InvalidLine : FnScope ["self", "line"] ["self", "line"] (defScope sI_InvalidLine) := ⟨rfl, rfl, rfl, by decide +kernel, rfl, by decide +kernel, by decide +kernel⟩
theorem raw_InvalidLine {K : PySem.W.Frag} {c fI : Addr} {od an : Option Addr} {sl : Array (Option Value)} {oc kV dc pm cdv ct : Value}
    (ii : PySem.W.excInitIn K c [.type "ValueError", .type "Exception", .type "BaseException", .type "object"] "ValueError.__new__" = true) (ov : PySem.W.excOver K c [.type "ValueError", .type "Exception", .type "BaseException", .type "object"] = true) (sa : PySem.W.findIn K (.ref c) "__setattr__" = some (some (.builtin "object.__setattr__")))
    (ga : PySem.W.findIn K (.ref c) "__getattribute__" = some (some (.builtin "BaseException.__getattribute__"))) (gg : PySem.W.findIn K (.ref c) "__getattr__" = some none) (ca : PySem.W.findIn K (.ref c) "__class__" = some (some (.builtin "object.__class__")))
    (ex : PySem.W.subIn K (.ref c) (.type "BaseException") = some true) (ob : PySem.W.mroIn K c (.type "object") = some true) (hd : PySem.W.hasDictIn K c = true) (kp : PySem.W.keepIn K (.ref c) = true)
    (ty : PySem.W.typeIn K (.ref c) = some (.type "type")) (ini : PySem.W.findIn K (.ref c) "__init__" = some (some (.ref fI))) (tf : PySem.W.typeIn K (.ref fI) = some (.type "function"))
    (li : K.lookup fI = some ⟨oc, od, .func (PySem.W.fnOf "__init__" "InvalidLine.__init__" (defArgs sI_InvalidLine) (defBody sI_InvalidLine) (defScope sI_InvalidLine) .none kV dc pm an cdv ct), sl⟩) (ci : PySem.W.codeIn K cdv "InvalidLine.__init__" = true) (ki : PySem.W.keepIn K (.ref fI) = true)
    (n0 : PySem.W.findIn K (.ref c) "line" = some none) : XCl K c ∧ ∀ (P : Program) (w : World) (mg : Str → Option Value) (base : Heap), mg "InvalidLine" = some (.ref c) → RzH P w K mg base "InvalidLine" "line" c := by
  have X : XCl K c := ⟨⟨_, _, _, _, PySem.F.excBase_ValueError, PySem.F.store_ValueError, ii, ov⟩, sa, ga, gg, ca, ex, ob, hd, kp⟩
  refine ⟨X, fun P w mg base gm => ?_⟩
  have F := fun_mk (st := sI_InvalidLine) li ci ki
  refine ⟨gm, ty, fI, _, ⟨X, ini, tf⟩, ?_, ?_, xb_mk F (fun r _ => r) fun _ _ _ _ _ _ b us ws hl => match us, hl with | [_], _ => rfl⟩
  · refine F.ok scI_InvalidLine (fun vs H Q E h => ?_) (fun cdv A outer s H vs Q E hr h => ?_)
    · obtain ⟨a, v, rfl, _⟩ := h
      rfl
    · obtain ⟨a, v, rfl, ha, q⟩ := h
      exact ⟨_, pss_one (ps_xs (pv 0) (pv 1)), v, rfl, .ref a, rfl, a, c, rfl, X, n0, .inl ⟨ha, fun dx n ne => q dx n ne⟩⟩
  · exact L2H.fn_ofH li ci scI_InvalidLine (fun vs H Q E h => by obtain ⟨a, v, rfl, _⟩ := h; rfl) (fun A outer s H vs Q E p hot hr h => by
      obtain ⟨a, v, rfl, ha, q⟩ := h
      exact ⟨_, pss_one (ps_xs (pv 0) (pv 1)), v, rfl, .ref a, rfl, a, c, rfl, X, n0, .inl ⟨ha, fun dx n ne => q dx n ne⟩⟩)
theorem exm_of {K : PySem.W.Frag} {C D : Addr} {cd : ClassData} {b : Bool} (bP : PySem.W.subIn K (.ref D) (.type "BaseException") = some true) (cl : PySem.W.clsIn K D = some cd) (ty : PySem.W.typeIn K (.ref D) = some (.type "type")) (ss : PySem.W.subIn K (.ref C) (.ref D) = some b) : PySem.W.exmOne K (.ref C) (.ref D) = some b := by
  unfold PySem.W.exmOne
  rw [bP, if_pos (by rfl)]
  show (if ((PySem.W.clsIn K D).isSome && PySem.W.typeIn K (.ref D) == some (.type "type")) = true then PySem.W.subIn K (.ref C) (.ref D) else none) = _
  rw [cl, ty, if_pos (by rfl)]
  exact ss
theorem kit_bt {K : PySem.W.Frag} {C : Addr} {T : String} {b : Bool} (m : PySem.W.kitMeta T = true) (sb : PySem.W.subIn K (.ref C) (.type T) = some b) : PySem.W.kitOne K (.ref C) (.type T) = some b := by
  unfold PySem.W.kitOne
  rw [if_neg (show ¬ ((Value.ref C == Value.type T) = true) from fun z => Value.noConfusion (beq_iff_eq.mp z))]
  show (if PySem.W.kitMeta T = true then PySem.W.subIn K (.ref C) (.type T) else none) = _
  rw [if_pos m]
  exact sb
theorem kit_sub {K : PySem.W.Frag} {C D : Addr} {cd : ClassData} {b : Bool} (ne : C ≠ D) (cl : PySem.W.clsIn K D = some cd) (ty : PySem.W.typeIn K (.ref D) = some (.type "type")) (sb : PySem.W.subIn K (.ref C) (.ref D) = some b) : PySem.W.kitOne K (.ref C) (.ref D) = some b := by
  unfold PySem.W.kitOne
  rw [if_neg (fun z => ne (Value.ref.inj (beq_iff_eq.mp z)))]
  show (if ((PySem.W.clsIn K D).isSome && PySem.W.typeIn K (.ref D) == some (.type "type")) = true then PySem.W.subIn K (.ref C) (.ref D) else none) = _
  rw [cl, ty, if_pos (by rfl)]
  exact sb
theorem RzH.rz {P : Program} {w : World} {K : PySem.W.Frag} {mg : Str → Option Value} {base : Heap} {nm f : Str} {C : Addr} (h : RzH P w K mg base nm f C) : Rz P w K mg base nm f C := by
  obtain ⟨fI, fd, a, b, _, c⟩ := h.ex
  exact ⟨h.gm, h.ty, fI, fd, a, b, c⟩
theorem all_mk {l : PySem.W.OpenLaw} {w : World} {K : PySem.W.Frag} {h : Heap} {mg : Str → Option Value} {fa f_is_text_of f_is_host_name f_is_host f_is_pair_of_hosts f_steps_towards f_unlinked_hosts f_join_ends f_join_all f_check_connected f_tree_text f_split_text f_check_no_rest f_leading_hosts f_is_next_link f_following_links f_tree_of_lines f_parse_tree f_law_rng f_law_draw f_law_names f_law_shuffled f_law_links f_law_is_name f_law_lines_spoilt f_law_spoilt f_law_part f_law_line_right f_law_read f_law_told f_law_right f_law c_InvalidTree c_InvalidLine : Addr} {c_Tree : Addr} {fTm_init : Addr} {odTm_init anTm_init : Option Addr} {slTm_init : Array (Option Value)} {ocTm_init kVTm_init dcTm_init pmTm_init cdTm_init ctTm_init : Value} {TTm_init : Addr} {oTTm_init : Obj} {fTm_hosts : Addr} {odTm_hosts anTm_hosts : Option Addr} {slTm_hosts : Array (Option Value)} {ocTm_hosts kVTm_hosts dcTm_hosts pmTm_hosts cdTm_hosts ctTm_hosts : Value} {fTm_links : Addr} {odTm_links anTm_links : Option Addr} {slTm_links : Array (Option Value)} {ocTm_links kVTm_links dcTm_links pmTm_links cdTm_links ctTm_links : Value} {cd_L : ClassData} {c_InvalidText : Addr} {cd_X : ClassData} {cd_T : ClassData} {c_RelinkTreeError : Addr} {cd_B : ClassData} (X : K.In h) (G : h.Ns mainGlobals mg) (hfa : mg "law" = some (.ref fa))
    {od_is_text_of od_is_host_name od_is_host od_is_pair_of_hosts od_steps_towards od_unlinked_hosts od_join_ends od_join_all od_check_connected od_tree_text od_split_text od_check_no_rest od_leading_hosts od_is_next_link od_following_links od_tree_of_lines od_parse_tree od_law_rng od_law_draw od_law_names od_law_shuffled od_law_links od_law_is_name od_law_lines_spoilt od_law_spoilt od_law_part od_law_line_right od_law_read od_law_told od_law_right od_law an_is_text_of an_is_host_name an_is_host an_is_pair_of_hosts an_steps_towards an_unlinked_hosts an_join_ends an_join_all an_check_connected an_tree_text an_split_text an_check_no_rest an_leading_hosts an_is_next_link an_following_links an_tree_of_lines an_parse_tree an_law_rng an_law_draw an_law_names an_law_shuffled an_law_links an_law_is_name an_law_lines_spoilt an_law_spoilt an_law_part an_law_line_right an_law_read an_law_told an_law_right an_law : Option Addr} {sl_is_text_of sl_is_host_name sl_is_host sl_is_pair_of_hosts sl_steps_towards sl_unlinked_hosts sl_join_ends sl_join_all sl_check_connected sl_tree_text sl_split_text sl_check_no_rest sl_leading_hosts sl_is_next_link sl_following_links sl_tree_of_lines sl_parse_tree sl_law_rng sl_law_draw sl_law_names sl_law_shuffled sl_law_links sl_law_is_name sl_law_lines_spoilt sl_law_spoilt sl_law_part sl_law_line_right sl_law_read sl_law_told sl_law_right sl_law : Array (Option Value)} {oc_is_text_of oc_is_host_name oc_is_host oc_is_pair_of_hosts oc_steps_towards oc_unlinked_hosts oc_join_ends oc_join_all oc_check_connected oc_tree_text oc_split_text oc_check_no_rest oc_leading_hosts oc_is_next_link oc_following_links oc_tree_of_lines oc_parse_tree oc_law_rng oc_law_draw oc_law_names oc_law_shuffled oc_law_links oc_law_is_name oc_law_lines_spoilt oc_law_spoilt oc_law_part oc_law_line_right oc_law_read oc_law_told oc_law_right oc_law kV_is_text_of kV_is_host_name kV_is_host kV_is_pair_of_hosts kV_steps_towards kV_unlinked_hosts kV_join_ends kV_join_all kV_check_connected kV_tree_text kV_split_text kV_check_no_rest kV_leading_hosts kV_is_next_link kV_following_links kV_tree_of_lines kV_parse_tree kV_law_rng kV_law_draw kV_law_names kV_law_shuffled kV_law_links kV_law_is_name kV_law_lines_spoilt kV_law_spoilt kV_law_part kV_law_line_right kV_law_read kV_law_told kV_law_right kV_law dc_is_text_of dc_is_host_name dc_is_host dc_is_pair_of_hosts dc_steps_towards dc_unlinked_hosts dc_join_ends dc_join_all dc_check_connected dc_tree_text dc_split_text dc_check_no_rest dc_leading_hosts dc_is_next_link dc_following_links dc_tree_of_lines dc_parse_tree dc_law_rng dc_law_draw dc_law_names dc_law_shuffled dc_law_links dc_law_is_name dc_law_lines_spoilt dc_law_spoilt dc_law_part dc_law_line_right dc_law_read dc_law_told dc_law_right dc_law pm_is_text_of pm_is_host_name pm_is_host pm_is_pair_of_hosts pm_steps_towards pm_unlinked_hosts pm_join_ends pm_join_all pm_check_connected pm_tree_text pm_split_text pm_check_no_rest pm_leading_hosts pm_is_next_link pm_following_links pm_tree_of_lines pm_parse_tree pm_law_rng pm_law_draw pm_law_names pm_law_shuffled pm_law_links pm_law_is_name pm_law_lines_spoilt pm_law_spoilt pm_law_part pm_law_line_right pm_law_read pm_law_told pm_law_right pm_law cd_is_text_of cd_is_host_name cd_is_host cd_is_pair_of_hosts cd_steps_towards cd_unlinked_hosts cd_join_ends cd_join_all cd_check_connected cd_tree_text cd_split_text cd_check_no_rest cd_leading_hosts cd_is_next_link cd_following_links cd_tree_of_lines cd_parse_tree cd_law_rng cd_law_draw cd_law_names cd_law_shuffled cd_law_links cd_law_is_name cd_law_lines_spoilt cd_law_spoilt cd_law_part cd_law_line_right cd_law_read cd_law_told cd_law_right cd_law ct_is_text_of ct_is_host_name ct_is_host ct_is_pair_of_hosts ct_steps_towards ct_unlinked_hosts ct_join_ends ct_join_all ct_check_connected ct_tree_text ct_split_text ct_check_no_rest ct_leading_hosts ct_is_next_link ct_following_links ct_tree_of_lines ct_parse_tree ct_law_rng ct_law_draw ct_law_names ct_law_shuffled ct_law_links ct_law_is_name ct_law_lines_spoilt ct_law_spoilt ct_law_part ct_law_line_right ct_law_read ct_law_told ct_law_right ct_law : Value}
    {t_LETTERS t_LONGEST_NAME : Tok}
    (a_is_text_of : PySem.W.nsIn K mainGlobals "is_text_of" = some (some (.ref f_is_text_of))) (l_is_text_of : K.lookup f_is_text_of = some ⟨oc_is_text_of, od_is_text_of, .func (PySem.W.fnOf "is_text_of" "is_text_of" (defArgs s_is_text_of) (defBody s_is_text_of) (defScope s_is_text_of) .none kV_is_text_of dc_is_text_of pm_is_text_of an_is_text_of cd_is_text_of ct_is_text_of), sl_is_text_of⟩) (co_is_text_of : PySem.W.codeIn K cd_is_text_of "is_text_of" = true) (k_is_text_of : PySem.W.keepIn K (.ref f_is_text_of) = true)
    (a_is_host_name : PySem.W.nsIn K mainGlobals "is_host_name" = some (some (.ref f_is_host_name))) (l_is_host_name : K.lookup f_is_host_name = some ⟨oc_is_host_name, od_is_host_name, .func (PySem.W.fnOf "is_host_name" "is_host_name" (defArgs s_is_host_name) (defBody s_is_host_name) (defScope s_is_host_name) .none kV_is_host_name dc_is_host_name pm_is_host_name an_is_host_name cd_is_host_name ct_is_host_name), sl_is_host_name⟩) (co_is_host_name : PySem.W.codeIn K cd_is_host_name "is_host_name" = true) (k_is_host_name : PySem.W.keepIn K (.ref f_is_host_name) = true)
    (a_is_host : PySem.W.nsIn K mainGlobals "is_host" = some (some (.ref f_is_host))) (l_is_host : K.lookup f_is_host = some ⟨oc_is_host, od_is_host, .func (PySem.W.fnOf "is_host" "is_host" (defArgs s_is_host) (defBody s_is_host) (defScope s_is_host) .none kV_is_host dc_is_host pm_is_host an_is_host cd_is_host ct_is_host), sl_is_host⟩) (co_is_host : PySem.W.codeIn K cd_is_host "is_host" = true) (k_is_host : PySem.W.keepIn K (.ref f_is_host) = true)
    (a_is_pair_of_hosts : PySem.W.nsIn K mainGlobals "is_pair_of_hosts" = some (some (.ref f_is_pair_of_hosts))) (l_is_pair_of_hosts : K.lookup f_is_pair_of_hosts = some ⟨oc_is_pair_of_hosts, od_is_pair_of_hosts, .func (PySem.W.fnOf "is_pair_of_hosts" "is_pair_of_hosts" (defArgs s_is_pair_of_hosts) (defBody s_is_pair_of_hosts) (defScope s_is_pair_of_hosts) .none kV_is_pair_of_hosts dc_is_pair_of_hosts pm_is_pair_of_hosts an_is_pair_of_hosts cd_is_pair_of_hosts ct_is_pair_of_hosts), sl_is_pair_of_hosts⟩) (co_is_pair_of_hosts : PySem.W.codeIn K cd_is_pair_of_hosts "is_pair_of_hosts" = true) (k_is_pair_of_hosts : PySem.W.keepIn K (.ref f_is_pair_of_hosts) = true)
    (a_steps_towards : PySem.W.nsIn K mainGlobals "steps_towards" = some (some (.ref f_steps_towards))) (l_steps_towards : K.lookup f_steps_towards = some ⟨oc_steps_towards, od_steps_towards, .func (PySem.W.fnOf "steps_towards" "steps_towards" (defArgs s_steps_towards) (defBody s_steps_towards) (defScope s_steps_towards) .none kV_steps_towards dc_steps_towards pm_steps_towards an_steps_towards cd_steps_towards ct_steps_towards), sl_steps_towards⟩) (co_steps_towards : PySem.W.codeIn K cd_steps_towards "steps_towards" = true) (k_steps_towards : PySem.W.keepIn K (.ref f_steps_towards) = true)
    (a_unlinked_hosts : PySem.W.nsIn K mainGlobals "unlinked_hosts" = some (some (.ref f_unlinked_hosts))) (l_unlinked_hosts : K.lookup f_unlinked_hosts = some ⟨oc_unlinked_hosts, od_unlinked_hosts, .func (PySem.W.fnOf "unlinked_hosts" "unlinked_hosts" (defArgs s_unlinked_hosts) (defBody s_unlinked_hosts) (defScope s_unlinked_hosts) .none kV_unlinked_hosts dc_unlinked_hosts pm_unlinked_hosts an_unlinked_hosts cd_unlinked_hosts ct_unlinked_hosts), sl_unlinked_hosts⟩) (co_unlinked_hosts : PySem.W.codeIn K cd_unlinked_hosts "unlinked_hosts" = true) (k_unlinked_hosts : PySem.W.keepIn K (.ref f_unlinked_hosts) = true)
    (a_join_ends : PySem.W.nsIn K mainGlobals "join_ends" = some (some (.ref f_join_ends))) (l_join_ends : K.lookup f_join_ends = some ⟨oc_join_ends, od_join_ends, .func (PySem.W.fnOf "join_ends" "join_ends" (defArgs s_join_ends) (defBody s_join_ends) (defScope s_join_ends) .none kV_join_ends dc_join_ends pm_join_ends an_join_ends cd_join_ends ct_join_ends), sl_join_ends⟩) (co_join_ends : PySem.W.codeIn K cd_join_ends "join_ends" = true) (k_join_ends : PySem.W.keepIn K (.ref f_join_ends) = true)
    (a_join_all : PySem.W.nsIn K mainGlobals "join_all" = some (some (.ref f_join_all))) (l_join_all : K.lookup f_join_all = some ⟨oc_join_all, od_join_all, .func (PySem.W.fnOf "join_all" "join_all" (defArgs s_join_all) (defBody s_join_all) (defScope s_join_all) .none kV_join_all dc_join_all pm_join_all an_join_all cd_join_all ct_join_all), sl_join_all⟩) (co_join_all : PySem.W.codeIn K cd_join_all "join_all" = true) (k_join_all : PySem.W.keepIn K (.ref f_join_all) = true)
    (a_check_connected : PySem.W.nsIn K mainGlobals "check_connected" = some (some (.ref f_check_connected))) (l_check_connected : K.lookup f_check_connected = some ⟨oc_check_connected, od_check_connected, .func (PySem.W.fnOf "check_connected" "check_connected" (defArgs s_check_connected) (defBody s_check_connected) (defScope s_check_connected) .none kV_check_connected dc_check_connected pm_check_connected an_check_connected cd_check_connected ct_check_connected), sl_check_connected⟩) (co_check_connected : PySem.W.codeIn K cd_check_connected "check_connected" = true) (k_check_connected : PySem.W.keepIn K (.ref f_check_connected) = true)
    (a_tree_text : PySem.W.nsIn K mainGlobals "tree_text" = some (some (.ref f_tree_text))) (l_tree_text : K.lookup f_tree_text = some ⟨oc_tree_text, od_tree_text, .func (PySem.W.fnOf "tree_text" "tree_text" (defArgs s_tree_text) (defBody s_tree_text) (defScope s_tree_text) .none kV_tree_text dc_tree_text pm_tree_text an_tree_text cd_tree_text ct_tree_text), sl_tree_text⟩) (co_tree_text : PySem.W.codeIn K cd_tree_text "tree_text" = true) (k_tree_text : PySem.W.keepIn K (.ref f_tree_text) = true)
    (a_split_text : PySem.W.nsIn K mainGlobals "split_text" = some (some (.ref f_split_text))) (l_split_text : K.lookup f_split_text = some ⟨oc_split_text, od_split_text, .func (PySem.W.fnOf "split_text" "split_text" (defArgs s_split_text) (defBody s_split_text) (defScope s_split_text) .none kV_split_text dc_split_text pm_split_text an_split_text cd_split_text ct_split_text), sl_split_text⟩) (co_split_text : PySem.W.codeIn K cd_split_text "split_text" = true) (k_split_text : PySem.W.keepIn K (.ref f_split_text) = true)
    (a_check_no_rest : PySem.W.nsIn K mainGlobals "check_no_rest" = some (some (.ref f_check_no_rest))) (l_check_no_rest : K.lookup f_check_no_rest = some ⟨oc_check_no_rest, od_check_no_rest, .func (PySem.W.fnOf "check_no_rest" "check_no_rest" (defArgs s_check_no_rest) (defBody s_check_no_rest) (defScope s_check_no_rest) .none kV_check_no_rest dc_check_no_rest pm_check_no_rest an_check_no_rest cd_check_no_rest ct_check_no_rest), sl_check_no_rest⟩) (co_check_no_rest : PySem.W.codeIn K cd_check_no_rest "check_no_rest" = true) (k_check_no_rest : PySem.W.keepIn K (.ref f_check_no_rest) = true)
    (a_leading_hosts : PySem.W.nsIn K mainGlobals "leading_hosts" = some (some (.ref f_leading_hosts))) (l_leading_hosts : K.lookup f_leading_hosts = some ⟨oc_leading_hosts, od_leading_hosts, .func (PySem.W.fnOf "leading_hosts" "leading_hosts" (defArgs s_leading_hosts) (defBody s_leading_hosts) (defScope s_leading_hosts) .none kV_leading_hosts dc_leading_hosts pm_leading_hosts an_leading_hosts cd_leading_hosts ct_leading_hosts), sl_leading_hosts⟩) (co_leading_hosts : PySem.W.codeIn K cd_leading_hosts "leading_hosts" = true) (k_leading_hosts : PySem.W.keepIn K (.ref f_leading_hosts) = true)
    (a_is_next_link : PySem.W.nsIn K mainGlobals "is_next_link" = some (some (.ref f_is_next_link))) (l_is_next_link : K.lookup f_is_next_link = some ⟨oc_is_next_link, od_is_next_link, .func (PySem.W.fnOf "is_next_link" "is_next_link" (defArgs s_is_next_link) (defBody s_is_next_link) (defScope s_is_next_link) .none kV_is_next_link dc_is_next_link pm_is_next_link an_is_next_link cd_is_next_link ct_is_next_link), sl_is_next_link⟩) (co_is_next_link : PySem.W.codeIn K cd_is_next_link "is_next_link" = true) (k_is_next_link : PySem.W.keepIn K (.ref f_is_next_link) = true)
    (a_following_links : PySem.W.nsIn K mainGlobals "following_links" = some (some (.ref f_following_links))) (l_following_links : K.lookup f_following_links = some ⟨oc_following_links, od_following_links, .func (PySem.W.fnOf "following_links" "following_links" (defArgs s_following_links) (defBody s_following_links) (defScope s_following_links) .none kV_following_links dc_following_links pm_following_links an_following_links cd_following_links ct_following_links), sl_following_links⟩) (co_following_links : PySem.W.codeIn K cd_following_links "following_links" = true) (k_following_links : PySem.W.keepIn K (.ref f_following_links) = true)
    (a_tree_of_lines : PySem.W.nsIn K mainGlobals "tree_of_lines" = some (some (.ref f_tree_of_lines))) (l_tree_of_lines : K.lookup f_tree_of_lines = some ⟨oc_tree_of_lines, od_tree_of_lines, .func (PySem.W.fnOf "tree_of_lines" "tree_of_lines" (defArgs s_tree_of_lines) (defBody s_tree_of_lines) (defScope s_tree_of_lines) .none kV_tree_of_lines dc_tree_of_lines pm_tree_of_lines an_tree_of_lines cd_tree_of_lines ct_tree_of_lines), sl_tree_of_lines⟩) (co_tree_of_lines : PySem.W.codeIn K cd_tree_of_lines "tree_of_lines" = true) (k_tree_of_lines : PySem.W.keepIn K (.ref f_tree_of_lines) = true)
    (a_parse_tree : PySem.W.nsIn K mainGlobals "parse_tree" = some (some (.ref f_parse_tree))) (l_parse_tree : K.lookup f_parse_tree = some ⟨oc_parse_tree, od_parse_tree, .func (PySem.W.fnOf "parse_tree" "parse_tree" (defArgs s_parse_tree) (defBody s_parse_tree) (defScope s_parse_tree) .none kV_parse_tree dc_parse_tree pm_parse_tree an_parse_tree cd_parse_tree ct_parse_tree), sl_parse_tree⟩) (co_parse_tree : PySem.W.codeIn K cd_parse_tree "parse_tree" = true) (k_parse_tree : PySem.W.keepIn K (.ref f_parse_tree) = true)
    (a_law_rng : PySem.W.nsIn K mainGlobals "_law_rng" = some (some (.ref f_law_rng))) (l_law_rng : K.lookup f_law_rng = some ⟨oc_law_rng, od_law_rng, .func (PySem.W.fnOf "_law_rng" "_law_rng" (defArgs s_law_rng) (defBody s_law_rng) (defScope s_law_rng) .none kV_law_rng dc_law_rng pm_law_rng an_law_rng cd_law_rng ct_law_rng), sl_law_rng⟩) (co_law_rng : PySem.W.codeIn K cd_law_rng "_law_rng" = true) (k_law_rng : PySem.W.keepIn K (.ref f_law_rng) = true)
    (a_law_draw : PySem.W.nsIn K mainGlobals "_law_draw" = some (some (.ref f_law_draw))) (l_law_draw : K.lookup f_law_draw = some ⟨oc_law_draw, od_law_draw, .func (PySem.W.fnOf "_law_draw" "_law_draw" (defArgs s_law_draw) (defBody s_law_draw) (defScope s_law_draw) .none kV_law_draw dc_law_draw pm_law_draw an_law_draw cd_law_draw ct_law_draw), sl_law_draw⟩) (co_law_draw : PySem.W.codeIn K cd_law_draw "_law_draw" = true) (k_law_draw : PySem.W.keepIn K (.ref f_law_draw) = true)
    (a_law_names : PySem.W.nsIn K mainGlobals "_law_names" = some (some (.ref f_law_names))) (l_law_names : K.lookup f_law_names = some ⟨oc_law_names, od_law_names, .func (PySem.W.fnOf "_law_names" "_law_names" (defArgs s_law_names) (defBody s_law_names) (defScope s_law_names) .none kV_law_names dc_law_names pm_law_names an_law_names cd_law_names ct_law_names), sl_law_names⟩) (co_law_names : PySem.W.codeIn K cd_law_names "_law_names" = true) (k_law_names : PySem.W.keepIn K (.ref f_law_names) = true)
    (a_law_shuffled : PySem.W.nsIn K mainGlobals "_law_shuffled" = some (some (.ref f_law_shuffled))) (l_law_shuffled : K.lookup f_law_shuffled = some ⟨oc_law_shuffled, od_law_shuffled, .func (PySem.W.fnOf "_law_shuffled" "_law_shuffled" (defArgs s_law_shuffled) (defBody s_law_shuffled) (defScope s_law_shuffled) .none kV_law_shuffled dc_law_shuffled pm_law_shuffled an_law_shuffled cd_law_shuffled ct_law_shuffled), sl_law_shuffled⟩) (co_law_shuffled : PySem.W.codeIn K cd_law_shuffled "_law_shuffled" = true) (k_law_shuffled : PySem.W.keepIn K (.ref f_law_shuffled) = true)
    (a_law_links : PySem.W.nsIn K mainGlobals "_law_links" = some (some (.ref f_law_links))) (l_law_links : K.lookup f_law_links = some ⟨oc_law_links, od_law_links, .func (PySem.W.fnOf "_law_links" "_law_links" (defArgs s_law_links) (defBody s_law_links) (defScope s_law_links) .none kV_law_links dc_law_links pm_law_links an_law_links cd_law_links ct_law_links), sl_law_links⟩) (co_law_links : PySem.W.codeIn K cd_law_links "_law_links" = true) (k_law_links : PySem.W.keepIn K (.ref f_law_links) = true)
    (a_law_is_name : PySem.W.nsIn K mainGlobals "_law_is_name" = some (some (.ref f_law_is_name))) (l_law_is_name : K.lookup f_law_is_name = some ⟨oc_law_is_name, od_law_is_name, .func (PySem.W.fnOf "_law_is_name" "_law_is_name" (defArgs s_law_is_name) (defBody s_law_is_name) (defScope s_law_is_name) .none kV_law_is_name dc_law_is_name pm_law_is_name an_law_is_name cd_law_is_name ct_law_is_name), sl_law_is_name⟩) (co_law_is_name : PySem.W.codeIn K cd_law_is_name "_law_is_name" = true) (k_law_is_name : PySem.W.keepIn K (.ref f_law_is_name) = true)
    (a_law_lines_spoilt : PySem.W.nsIn K mainGlobals "_law_lines_spoilt" = some (some (.ref f_law_lines_spoilt))) (l_law_lines_spoilt : K.lookup f_law_lines_spoilt = some ⟨oc_law_lines_spoilt, od_law_lines_spoilt, .func (PySem.W.fnOf "_law_lines_spoilt" "_law_lines_spoilt" (defArgs s_law_lines_spoilt) (defBody s_law_lines_spoilt) (defScope s_law_lines_spoilt) .none kV_law_lines_spoilt dc_law_lines_spoilt pm_law_lines_spoilt an_law_lines_spoilt cd_law_lines_spoilt ct_law_lines_spoilt), sl_law_lines_spoilt⟩) (co_law_lines_spoilt : PySem.W.codeIn K cd_law_lines_spoilt "_law_lines_spoilt" = true) (k_law_lines_spoilt : PySem.W.keepIn K (.ref f_law_lines_spoilt) = true)
    (a_law_spoilt : PySem.W.nsIn K mainGlobals "_law_spoilt" = some (some (.ref f_law_spoilt))) (l_law_spoilt : K.lookup f_law_spoilt = some ⟨oc_law_spoilt, od_law_spoilt, .func (PySem.W.fnOf "_law_spoilt" "_law_spoilt" (defArgs s_law_spoilt) (defBody s_law_spoilt) (defScope s_law_spoilt) .none kV_law_spoilt dc_law_spoilt pm_law_spoilt an_law_spoilt cd_law_spoilt ct_law_spoilt), sl_law_spoilt⟩) (co_law_spoilt : PySem.W.codeIn K cd_law_spoilt "_law_spoilt" = true) (k_law_spoilt : PySem.W.keepIn K (.ref f_law_spoilt) = true)
    (a_law_part : PySem.W.nsIn K mainGlobals "_law_part" = some (some (.ref f_law_part))) (l_law_part : K.lookup f_law_part = some ⟨oc_law_part, od_law_part, .func (PySem.W.fnOf "_law_part" "_law_part" (defArgs s_law_part) (defBody s_law_part) (defScope s_law_part) .none kV_law_part dc_law_part pm_law_part an_law_part cd_law_part ct_law_part), sl_law_part⟩) (co_law_part : PySem.W.codeIn K cd_law_part "_law_part" = true) (k_law_part : PySem.W.keepIn K (.ref f_law_part) = true)
    (a_law_line_right : PySem.W.nsIn K mainGlobals "_law_line_right" = some (some (.ref f_law_line_right))) (l_law_line_right : K.lookup f_law_line_right = some ⟨oc_law_line_right, od_law_line_right, .func (PySem.W.fnOf "_law_line_right" "_law_line_right" (defArgs s_law_line_right) (defBody s_law_line_right) (defScope s_law_line_right) .none kV_law_line_right dc_law_line_right pm_law_line_right an_law_line_right cd_law_line_right ct_law_line_right), sl_law_line_right⟩) (co_law_line_right : PySem.W.codeIn K cd_law_line_right "_law_line_right" = true) (k_law_line_right : PySem.W.keepIn K (.ref f_law_line_right) = true)
    (a_law_read : PySem.W.nsIn K mainGlobals "_law_read" = some (some (.ref f_law_read))) (l_law_read : K.lookup f_law_read = some ⟨oc_law_read, od_law_read, .func (PySem.W.fnOf "_law_read" "_law_read" (defArgs s_law_read) (defBody s_law_read) (defScope s_law_read) .none kV_law_read dc_law_read pm_law_read an_law_read cd_law_read ct_law_read), sl_law_read⟩) (co_law_read : PySem.W.codeIn K cd_law_read "_law_read" = true) (k_law_read : PySem.W.keepIn K (.ref f_law_read) = true)
    (a_law_told : PySem.W.nsIn K mainGlobals "_law_told" = some (some (.ref f_law_told))) (l_law_told : K.lookup f_law_told = some ⟨oc_law_told, od_law_told, .func (PySem.W.fnOf "_law_told" "_law_told" (defArgs s_law_told) (defBody s_law_told) (defScope s_law_told) .none kV_law_told dc_law_told pm_law_told an_law_told cd_law_told ct_law_told), sl_law_told⟩) (co_law_told : PySem.W.codeIn K cd_law_told "_law_told" = true) (k_law_told : PySem.W.keepIn K (.ref f_law_told) = true)
    (a_law_right : PySem.W.nsIn K mainGlobals "_law_right" = some (some (.ref f_law_right))) (l_law_right : K.lookup f_law_right = some ⟨oc_law_right, od_law_right, .func (PySem.W.fnOf "_law_right" "_law_right" (defArgs s_law_right) (defBody s_law_right) (defScope s_law_right) .none kV_law_right dc_law_right pm_law_right an_law_right cd_law_right ct_law_right), sl_law_right⟩) (co_law_right : PySem.W.codeIn K cd_law_right "_law_right" = true) (k_law_right : PySem.W.keepIn K (.ref f_law_right) = true)
    (a_law : PySem.W.nsIn K mainGlobals "law" = some (some (.ref f_law))) (l_law : K.lookup f_law = some ⟨oc_law, od_law, .func (PySem.W.fnOf "law" "law" (defArgs s_law) (defBody s_law) (defScope s_law) .none kV_law dc_law pm_law an_law cd_law ct_law), sl_law⟩) (co_law : PySem.W.codeIn K cd_law "law" = true) (k_law : PySem.W.keepIn K (.ref f_law) = true)
    (v_LETTERS : PySem.W.nsIn K mainGlobals "LETTERS" = some (some (.str LET t_LETTERS)))
    (v_LONGEST_NAME : PySem.W.nsIn K mainGlobals "LONGEST_NAME" = some (some (.int 8 t_LONGEST_NAME)))
    (z_len : PySem.W.nsIn K mainGlobals "len" = some none)
    (z_range : PySem.W.nsIn K mainGlobals "range" = some none)
    (z_abs : PySem.W.nsIn K mainGlobals "abs" = some none)
    (z_max : PySem.W.nsIn K mainGlobals "max" = some none)
    (z_min : PySem.W.nsIn K mainGlobals "min" = some none)
    (z_divmod : PySem.W.nsIn K mainGlobals "divmod" = some none)
    (z_isinstance : PySem.W.nsIn K mainGlobals "isinstance" = some none)
    (z_str : PySem.W.nsIn K mainGlobals "str" = some none)
    (z_int : PySem.W.nsIn K mainGlobals "int" = some none)
    (z_bool : PySem.W.nsIn K mainGlobals "bool" = some none)
    (z_tuple : PySem.W.nsIn K mainGlobals "tuple" = some none)
    (z_list : PySem.W.nsIn K mainGlobals "list" = some none)
    (z_set : PySem.W.nsIn K mainGlobals "set" = some none)
    (z_dict : PySem.W.nsIn K mainGlobals "dict" = some none)
    (z_all : PySem.W.nsIn K mainGlobals "all" = some none)
    (z_any : PySem.W.nsIn K mainGlobals "any" = some none)
    (z_repr : PySem.W.nsIn K mainGlobals "repr" = some none)
    (z_sorted : PySem.W.nsIn K mainGlobals "sorted" = some none)
    (z_enumerate : PySem.W.nsIn K mainGlobals "enumerate" = some none)
    (z_zip : PySem.W.nsIn K mainGlobals "zip" = some none)
    (e_InvalidTree : PySem.W.nsIn K mainGlobals "InvalidTree" = some (some (.ref c_InvalidTree))) (S_InvalidTree : XCl K c_InvalidTree ∧ ∀ (P : Program) (w : World) (mg : Str → Option Value) (base : Heap), mg "InvalidTree" = some (.ref c_InvalidTree) → Rz2 P w K mg base "InvalidTree" "reason" "value" c_InvalidTree)
    (e_InvalidLine : PySem.W.nsIn K mainGlobals "InvalidLine" = some (some (.ref c_InvalidLine))) (S_InvalidLine : XCl K c_InvalidLine ∧ ∀ (P : Program) (w : World) (mg : Str → Option Value) (base : Heap), mg "InvalidLine" = some (.ref c_InvalidLine) → RzH P w K mg base "InvalidLine" "line" c_InvalidLine)
    (e_Tree : PySem.W.nsIn K mainGlobals "Tree" = some (some (.ref c_Tree)))
    (T_pg : PySem.W.plainGet K c_Tree Str.empty = true)
    (T_hd : PySem.W.hasDictIn K c_Tree = true)
    (T_po : PySem.W.plainOver K c_Tree = true)
    (T_sa : PySem.W.findIn K (.ref c_Tree) "__setattr__" = some (some (.builtin "object.__setattr__")))
    (T_mk : PySem.W.makesIn K c_Tree = true)
    (T_kc : PySem.W.keepIn K (.ref c_Tree) = true)
    (T_nlinked : PySem.W.findIn K (.ref c_Tree) "linked" = some none)
    (aTm_init : PySem.W.findIn K (.ref c_Tree) "__init__" = some (some (.ref fTm_init)))
    (iTm_init : PySem.W.isFn K (.ref fTm_init) = true)
    (lTm_init : K.lookup fTm_init = some ⟨ocTm_init, odTm_init, .func (PySem.W.fnOf "__init__" "Tree.__init__" (defArgs m_init) (defBody m_init) (defScope m_init) (.ref TTm_init) kVTm_init dcTm_init pmTm_init anTm_init cdTm_init ctTm_init), slTm_init⟩)
    (cTm_init : PySem.W.codeIn K cdTm_init "Tree.__init__" = true)
    (kTm_init : PySem.W.keepIn K (.ref fTm_init) = true)
    (dlTm_init : K.lookup TTm_init = some oTTm_init)
    (dqTm_init : ∃ e n, oTTm_init.data = .seq #[Value.ref e] n)
    (aTm_hosts : PySem.W.findIn K (.ref c_Tree) "hosts" = some (some (.ref fTm_hosts)))
    (iTm_hosts : PySem.W.isFn K (.ref fTm_hosts) = true)
    (lTm_hosts : K.lookup fTm_hosts = some ⟨ocTm_hosts, odTm_hosts, .func (PySem.W.fnOf "hosts" "Tree.hosts" (defArgs m_hosts) (defBody m_hosts) (defScope m_hosts) .none kVTm_hosts dcTm_hosts pmTm_hosts anTm_hosts cdTm_hosts ctTm_hosts), slTm_hosts⟩)
    (cTm_hosts : PySem.W.codeIn K cdTm_hosts "Tree.hosts" = true)
    (kTm_hosts : PySem.W.keepIn K (.ref fTm_hosts) = true)
    (aTm_links : PySem.W.findIn K (.ref c_Tree) "links" = some (some (.ref fTm_links)))
    (iTm_links : PySem.W.isFn K (.ref fTm_links) = true)
    (lTm_links : K.lookup fTm_links = some ⟨ocTm_links, odTm_links, .func (PySem.W.fnOf "links" "Tree.links" (defArgs m_links) (defBody m_links) (defScope m_links) .none kVTm_links dcTm_links pmTm_links anTm_links cdTm_links ctTm_links), slTm_links⟩)
    (cTm_links : PySem.W.codeIn K cdTm_links "Tree.links" = true)
    (kTm_links : PySem.W.keepIn K (.ref fTm_links) = true)
    (cg : PySem.W.specialIn K (.builtin "object.__class__") "__get__" = some (some (.builtin "getset_descriptor.__get__")))
    (ct : PySem.W.takesIn K (.builtin "object.__class__") = some true)
    (cl_L : PySem.W.clsIn K c_InvalidLine = some cd_L)
    (tP_L : PySem.W.typeIn K (.ref c_InvalidLine) = some (.type "type"))
    (e_InvalidText : PySem.W.nsIn K mainGlobals "InvalidText" = some (some (.ref c_InvalidText)))
    (cl_X : PySem.W.clsIn K c_InvalidText = some cd_X)
    (tP_X : PySem.W.typeIn K (.ref c_InvalidText) = some (.type "type"))
    (cl_T : PySem.W.clsIn K c_InvalidTree = some cd_T)
    (tP_T : PySem.W.typeIn K (.ref c_InvalidTree) = some (.type "type"))
    (e_RelinkTreeError : PySem.W.nsIn K mainGlobals "RelinkTreeError" = some (some (.ref c_RelinkTreeError)))
    (cl_B : PySem.W.clsIn K c_RelinkTreeError = some cd_B)
    (tP_B : PySem.W.typeIn K (.ref c_RelinkTreeError) = some (.type "type"))
    (bP_L : PySem.W.subIn K (.ref c_InvalidLine) (.type "BaseException") = some true)
    (s_LL : PySem.W.subIn K (.ref c_InvalidLine) (.ref c_InvalidLine) = some true)
    (ne_LX : c_InvalidLine ≠ c_InvalidText)
    (s_LX : PySem.W.subIn K (.ref c_InvalidLine) (.ref c_InvalidText) = some false)
    (ne_LT : c_InvalidLine ≠ c_InvalidTree)
    (s_LT : PySem.W.subIn K (.ref c_InvalidLine) (.ref c_InvalidTree) = some false)
    (ne_LB : c_InvalidLine ≠ c_RelinkTreeError)
    (s_LB : PySem.W.subIn K (.ref c_InvalidLine) (.ref c_RelinkTreeError) = some true)
    (sb_LValueError : PySem.W.subIn K (.ref c_InvalidLine) (.type "ValueError") = some true)
    (f_Lline : PySem.W.findIn K (.ref c_InvalidLine) "line" = some none)
    (bP_T : PySem.W.subIn K (.ref c_InvalidTree) (.type "BaseException") = some true)
    (s_TT : PySem.W.subIn K (.ref c_InvalidTree) (.ref c_InvalidTree) = some true)
    (zz_ValueError : PySem.W.nsIn K mainGlobals "ValueError" = some none) :
    ∃ fd : FuncData, (∀ (s : Shared) (v : Value), BindsTo s fd ⟨[v], []⟩ [("_law_script", v)]) ∧ ∀ base : Heap, K.In base → base.Ns mainGlobals mg → FnG l.prog w K mg base CX0 13 fa fd ["_law_script"] (spLaw K) := by
  have e := hfa.symm.trans (PySem.W.mg_of X G a_law)
  cases e
  have F_is_text_of := fun_mk (st := s_is_text_of) l_is_text_of co_is_text_of k_is_text_of
  have b_is_text_of := F_is_text_of.binds (ps := ["value", "characters", "longest"]) fun _ _ _ _ _ _ us hl => match us, hl with | [_, _, _], _ => rfl
  have m_is_text_of := PySem.W.mg_of X G a_is_text_of
  have F_is_host_name := fun_mk (st := s_is_host_name) l_is_host_name co_is_host_name k_is_host_name
  have b_is_host_name := F_is_host_name.binds (ps := ["value"]) fun _ _ _ _ _ _ us hl => match us, hl with | [_], _ => rfl
  have m_is_host_name := PySem.W.mg_of X G a_is_host_name
  have F_is_host := fun_mk (st := s_is_host) l_is_host co_is_host k_is_host
  have b_is_host := F_is_host.binds (ps := ["linked", "value"]) fun _ _ _ _ _ _ us hl => match us, hl with | [_, _], _ => rfl
  have m_is_host := PySem.W.mg_of X G a_is_host
  have F_is_pair_of_hosts := fun_mk (st := s_is_pair_of_hosts) l_is_pair_of_hosts co_is_pair_of_hosts k_is_pair_of_hosts
  have b_is_pair_of_hosts := F_is_pair_of_hosts.binds (ps := ["linked", "value"]) fun _ _ _ _ _ _ us hl => match us, hl with | [_, _], _ => rfl
  have m_is_pair_of_hosts := PySem.W.mg_of X G a_is_pair_of_hosts
  have F_steps_towards := fun_mk (st := s_steps_towards) l_steps_towards co_steps_towards k_steps_towards
  have b_steps_towards := F_steps_towards.binds (ps := ["linked", "goal"]) fun _ _ _ _ _ _ us hl => match us, hl with | [_, _], _ => rfl
  have m_steps_towards := PySem.W.mg_of X G a_steps_towards
  have F_unlinked_hosts := fun_mk (st := s_unlinked_hosts) l_unlinked_hosts co_unlinked_hosts k_unlinked_hosts
  have b_unlinked_hosts := F_unlinked_hosts.binds (ps := ["hosts"]) fun _ _ _ _ _ _ us hl => match us, hl with | [_], _ => rfl
  have m_unlinked_hosts := PySem.W.mg_of X G a_unlinked_hosts
  have F_join_ends := fun_mk (st := s_join_ends) l_join_ends co_join_ends k_join_ends
  have b_join_ends := F_join_ends.binds (ps := ["linked", "link"]) fun _ _ _ _ _ _ us hl => match us, hl with | [_, _], _ => rfl
  have m_join_ends := PySem.W.mg_of X G a_join_ends
  have F_join_all := fun_mk (st := s_join_all) l_join_all co_join_all k_join_all
  have b_join_all := F_join_all.binds (ps := ["linked", "links"]) fun _ _ _ _ _ _ us hl => match us, hl with | [_, _], _ => rfl
  have m_join_all := PySem.W.mg_of X G a_join_all
  have F_check_connected := fun_mk (st := s_check_connected) l_check_connected co_check_connected k_check_connected
  have b_check_connected := F_check_connected.binds (ps := ["linked"]) fun _ _ _ _ _ _ us hl => match us, hl with | [_], _ => rfl
  have m_check_connected := PySem.W.mg_of X G a_check_connected
  have F_tree_text := fun_mk (st := s_tree_text) l_tree_text co_tree_text k_tree_text
  have b_tree_text := F_tree_text.binds (ps := ["tree"]) fun _ _ _ _ _ _ us hl => match us, hl with | [_], _ => rfl
  have m_tree_text := PySem.W.mg_of X G a_tree_text
  have F_split_text := fun_mk (st := s_split_text) l_split_text co_split_text k_split_text
  have b_split_text := F_split_text.binds (ps := ["text"]) fun _ _ _ _ _ _ us hl => match us, hl with | [_], _ => rfl
  have m_split_text := PySem.W.mg_of X G a_split_text
  have F_check_no_rest := fun_mk (st := s_check_no_rest) l_check_no_rest co_check_no_rest k_check_no_rest
  have b_check_no_rest := F_check_no_rest.binds (ps := ["lines", "rest"]) fun _ _ _ _ _ _ us hl => match us, hl with | [_, _], _ => rfl
  have m_check_no_rest := PySem.W.mg_of X G a_check_no_rest
  have F_leading_hosts := fun_mk (st := s_leading_hosts) l_leading_hosts co_leading_hosts k_leading_hosts
  have b_leading_hosts := F_leading_hosts.binds (ps := ["lines"]) fun _ _ _ _ _ _ us hl => match us, hl with | [_], _ => rfl
  have m_leading_hosts := PySem.W.mg_of X G a_leading_hosts
  have F_is_next_link := fun_mk (st := s_is_next_link) l_is_next_link co_is_next_link k_is_next_link
  have b_is_next_link := F_is_next_link.binds (ps := ["links", "link"]) fun _ _ _ _ _ _ us hl => match us, hl with | [_, _], _ => rfl
  have m_is_next_link := PySem.W.mg_of X G a_is_next_link
  have F_following_links := fun_mk (st := s_following_links) l_following_links co_following_links k_following_links
  have b_following_links := F_following_links.binds (ps := ["lines", "hosts"]) fun _ _ _ _ _ _ us hl => match us, hl with | [_, _], _ => rfl
  have m_following_links := PySem.W.mg_of X G a_following_links
  have F_tree_of_lines := fun_mk (st := s_tree_of_lines) l_tree_of_lines co_tree_of_lines k_tree_of_lines
  have b_tree_of_lines := F_tree_of_lines.binds (ps := ["lines"]) fun _ _ _ _ _ _ us hl => match us, hl with | [_], _ => rfl
  have m_tree_of_lines := PySem.W.mg_of X G a_tree_of_lines
  have F_parse_tree := fun_mk (st := s_parse_tree) l_parse_tree co_parse_tree k_parse_tree
  have b_parse_tree := F_parse_tree.binds (ps := ["text"]) fun _ _ _ _ _ _ us hl => match us, hl with | [_], _ => rfl
  have m_parse_tree := PySem.W.mg_of X G a_parse_tree
  have F_law_rng := fun_mk (st := s_law_rng) l_law_rng co_law_rng k_law_rng
  have b_law_rng := F_law_rng.binds (ps := ["_law_script", "_law_k"]) fun _ _ _ _ _ _ us hl => match us, hl with | [_, _], _ => rfl
  have m_law_rng := PySem.W.mg_of X G a_law_rng
  have F_law_draw := fun_mk (st := s_law_draw) l_law_draw co_law_draw k_law_draw
  have b_law_draw := F_law_draw.binds (ps := ["_law_rng_here", "_law_many"]) fun _ _ _ _ _ _ us hl => match us, hl with | [_, _], _ => rfl
  have m_law_draw := PySem.W.mg_of X G a_law_draw
  have F_law_names := fun_mk (st := s_law_names) l_law_names co_law_names k_law_names
  have b_law_names := F_law_names.binds (ps := ["_law_rng_here", "_law_many"]) fun _ _ _ _ _ _ us hl => match us, hl with | [_, _], _ => rfl
  have m_law_names := PySem.W.mg_of X G a_law_names
  have F_law_shuffled := fun_mk (st := s_law_shuffled) l_law_shuffled co_law_shuffled k_law_shuffled
  have b_law_shuffled := F_law_shuffled.binds (ps := ["_law_rng_here", "_law_some"]) fun _ _ _ _ _ _ us hl => match us, hl with | [_, _], _ => rfl
  have m_law_shuffled := PySem.W.mg_of X G a_law_shuffled
  have F_law_links := fun_mk (st := s_law_links) l_law_links co_law_links k_law_links
  have b_law_links := F_law_links.binds (ps := ["_law_rng_here", "_law_names_here"]) fun _ _ _ _ _ _ us hl => match us, hl with | [_, _], _ => rfl
  have m_law_links := PySem.W.mg_of X G a_law_links
  have F_law_is_name := fun_mk (st := s_law_is_name) l_law_is_name co_law_is_name k_law_is_name
  have b_law_is_name := F_law_is_name.binds (ps := ["_law_value"]) fun _ _ _ _ _ _ us hl => match us, hl with | [_], _ => rfl
  have m_law_is_name := PySem.W.mg_of X G a_law_is_name
  have F_law_lines_spoilt := fun_mk (st := s_law_lines_spoilt) l_law_lines_spoilt co_law_lines_spoilt k_law_lines_spoilt
  have b_law_lines_spoilt := F_law_lines_spoilt.binds (ps := ["_law_rng_here", "_law_lines", "_law_menu"]) fun _ _ _ _ _ _ us hl => match us, hl with | [_, _, _], _ => rfl
  have m_law_lines_spoilt := PySem.W.mg_of X G a_law_lines_spoilt
  have F_law_spoilt := fun_mk (st := s_law_spoilt) l_law_spoilt co_law_spoilt k_law_spoilt
  have b_law_spoilt := F_law_spoilt.binds (ps := ["_law_rng_here", "_law_text", "_law_menu"]) fun _ _ _ _ _ _ us hl => match us, hl with | [_, _, _], _ => rfl
  have m_law_spoilt := PySem.W.mg_of X G a_law_spoilt
  have F_law_part := fun_mk (st := s_law_part) l_law_part co_law_part k_law_part
  have b_law_part := F_law_part.binds (ps := ["_law_parts", "_law_name"]) fun _ _ _ _ _ _ us hl => match us, hl with | [_, _], _ => rfl
  have m_law_part := PySem.W.mg_of X G a_law_part
  have F_law_line_right := fun_mk (st := s_law_line_right) l_law_line_right co_law_line_right k_law_line_right
  have b_law_line_right := F_law_line_right.binds (ps := ["_law_words", "_law_names_here", "_law_links_here", "_law_parts"]) fun _ _ _ _ _ _ us hl => match us, hl with | [_, _, _, _], _ => rfl
  have m_law_line_right := PySem.W.mg_of X G a_law_line_right
  have F_law_read := fun_mk (st := s_law_read) l_law_read co_law_read k_law_read
  have b_law_read := F_law_read.binds (ps := ["_law_text"]) fun _ _ _ _ _ _ us hl => match us, hl with | [_], _ => rfl
  have m_law_read := PySem.W.mg_of X G a_law_read
  have F_law_told := fun_mk (st := s_law_told) l_law_told co_law_told k_law_told
  have b_law_told := F_law_told.binds (ps := ["_law_text"]) fun _ _ _ _ _ _ us hl => match us, hl with | [_], _ => rfl
  have m_law_told := PySem.W.mg_of X G a_law_told
  have F_law_right := fun_mk (st := s_law_right) l_law_right co_law_right k_law_right
  have b_law_right := F_law_right.binds (ps := ["_law_rng_here"]) fun _ _ _ _ _ _ us hl => match us, hl with | [_], _ => rfl
  have m_law_right := PySem.W.mg_of X G a_law_right
  have F_law := fun_mk (st := s_law) l_law co_law k_law
  have b_law := F_law.binds (ps := ["_law_script"]) fun _ _ _ _ _ _ us hl => match us, hl with | [_], _ => rfl
  have m_law := PySem.W.mg_of X G a_law
  have w_LETTERS := PySem.W.mg_of X G v_LETTERS
  have w_LONGEST_NAME := PySem.W.mg_of X G v_LONGEST_NAME
  have Y : Bn mg := ⟨PySem.W.mg_none_of X G z_len, PySem.W.mg_none_of X G z_range, PySem.W.mg_none_of X G z_abs, PySem.W.mg_none_of X G z_max, PySem.W.mg_none_of X G z_min, PySem.W.mg_none_of X G z_divmod, PySem.W.mg_none_of X G z_isinstance, PySem.W.mg_none_of X G z_str, PySem.W.mg_none_of X G z_int, PySem.W.mg_none_of X G z_bool, PySem.W.mg_none_of X G z_tuple, PySem.W.mg_none_of X G z_list, PySem.W.mg_none_of X G z_set, PySem.W.mg_none_of X G z_dict, PySem.W.mg_none_of X G z_all, PySem.W.mg_none_of X G z_any, PySem.W.mg_none_of X G z_repr, PySem.W.mg_none_of X G z_sorted, PySem.W.mg_none_of X G z_enumerate, PySem.W.mg_none_of X G z_zip⟩
  refine ⟨PySem.W.fnOf "law" "law" (defArgs s_law) (defBody s_law) (defScope s_law) .none kV_law dc_law pm_law an_law cd_law ct_law, fun s v => .of_eq rfl, fun base _ _ => ?_⟩
  have R_InvalidTree := S_InvalidTree.2 l.prog w mg base (PySem.W.mg_of X G e_InvalidTree)
  have R_InvalidLine := S_InvalidLine.2 l.prog w mg base (PySem.W.mg_of X G e_InvalidLine)
  have TC : TxtC mg := ⟨⟨_, w_LETTERS⟩, ⟨_, w_LONGEST_NAME⟩⟩
  have TCl : Tc K mg c_Tree := ⟨⟨T_pg, T_hd, T_po, T_sa⟩, T_nlinked⟩
  have gT := PySem.W.mg_of X G e_Tree
  have X3 : X92 K c_InvalidLine c_InvalidText c_InvalidTree c_RelinkTreeError := ⟨S_InvalidLine.1, (exm_of bP_L cl_L tP_L s_LL), (kit_sub ne_LX cl_X tP_X s_LX), (kit_sub ne_LT cl_T tP_T s_LT), (kit_sub ne_LB cl_B tP_B s_LB), (kit_bt (by decide +kernel) sb_LValueError), f_Lline⟩
  obtain ⟨eTm_init, nTm_init, qTm_init⟩ := dqTm_init
  have FTm_init : FunD K "__init__" "Tree.__init__" (defArgs m_init) (defBody m_init) (defScope m_init) [V.ref eTm_init] [] fTm_init (PySem.W.fnOf "__init__" "Tree.__init__" (defArgs m_init) (defBody m_init) (defScope m_init) (.ref TTm_init) kVTm_init dcTm_init pmTm_init anTm_init cdTm_init ctTm_init) := ⟨⟨_, _, _, _, _, _, _, _, _, _, rfl, lTm_init, cTm_init, .inr ⟨(fun z => nomatch z), TTm_init, oTTm_init, [Value.ref eTm_init], nTm_init, rfl, dlTm_init, qTm_init, .cons rfl .nil⟩, .inl rfl⟩, kTm_init⟩
  have bTm_init : Binds K (PySem.W.fnOf "__init__" "Tree.__init__" (defArgs m_init) (defBody m_init) (defScope m_init) (.ref TTm_init) kVTm_init dcTm_init pmTm_init anTm_init cdTm_init ctTm_init) ["self", "hosts", "links"] [] := by
    obtain ⟨ds, hv, hb⟩ := FTm_init.binds1 (ps := ["self", "hosts", "links"]) 3 1 (fun z => nomatch z) rfl (fun T kV doc pm an cdv ct us its h1 h2 => match us, its, h1, h2 with | [_, _, _], [_], _, _ => ⟨_, rfl, rfl⟩)
    cases hv
    exact hb
  have MTm_init : Meth K c_Tree "__init__" fTm_init := ⟨aTm_init, iTm_init, kTm_init⟩
  have FTm_hosts := fun_mk (st := m_hosts) lTm_hosts cTm_hosts kTm_hosts
  have bTm_hosts := FTm_hosts.binds (ps := ["self"]) fun _ _ _ _ _ _ us hl => match us, hl with | [_], _ => rfl
  have MTm_hosts : Meth K c_Tree "hosts" fTm_hosts := ⟨aTm_hosts, iTm_hosts, kTm_hosts⟩
  have FTm_links := fun_mk (st := m_links) lTm_links cTm_links kTm_links
  have bTm_links := FTm_links.binds (ps := ["self"]) fun _ _ _ _ _ _ us hl => match us, hl with | [_], _ => rfl
  have MTm_links : Meth K c_Tree "links" fTm_links := ⟨aTm_links, iTm_links, kTm_links⟩
  have G_is_text_of := (⟨⟨_, _, m_is_text_of, k_is_text_of, b_is_text_of, ok_text F_is_text_of Y⟩⟩ : Fk l.prog w K mg base _ _ "is_text_of" _ _)
  have G_is_host_name := (⟨⟨_, _, m_is_host_name, k_is_host_name, b_is_host_name, ok_host F_is_host_name TC G_is_text_of⟩⟩ : Fk l.prog w K mg base _ _ "is_host_name" _ _)
  have G_is_host := (⟨⟨_, _, m_is_host, k_is_host, b_is_host, ok_isH F_is_host G_is_host_name⟩⟩ : Fk l.prog w K mg base _ _ "is_host" _ _)
  have G_is_pair_of_hosts := (⟨⟨_, _, m_is_pair_of_hosts, k_is_pair_of_hosts, b_is_pair_of_hosts, ok_pair F_is_pair_of_hosts Y G_is_host⟩⟩ : Fk l.prog w K mg base _ _ "is_pair_of_hosts" _ _)
  have G_steps_towards := (⟨⟨_, _, m_steps_towards, k_steps_towards, b_steps_towards, ok_st F_steps_towards⟩⟩ : Fk l.prog w K mg base _ _ "steps_towards" _ _)
  have G_unlinked_hosts := (⟨⟨_, _, m_unlinked_hosts, k_unlinked_hosts, b_unlinked_hosts, ok_unl F_unlinked_hosts Y R_InvalidTree G_is_host_name⟩⟩ : Fk l.prog w K mg base _ _ "unlinked_hosts" _ _)
  have G_join_ends := (⟨⟨_, _, m_join_ends, k_join_ends, b_join_ends, ok_join F_join_ends Y R_InvalidTree G_is_pair_of_hosts G_steps_towards⟩⟩ : Fk l.prog w K mg base _ _ "join_ends" _ _)
  have G_join_all := (⟨⟨_, _, m_join_all, k_join_all, b_join_all, ok_joins F_join_all Y R_InvalidTree G_join_ends⟩⟩ : Fk l.prog w K mg base _ _ "join_all" _ _)
  have G_check_connected := (⟨⟨_, _, m_check_connected, k_check_connected, b_check_connected, ok_conn F_check_connected Y R_InvalidTree G_steps_towards⟩⟩ : Fk l.prog w K mg base _ _ "check_connected" _ _)
  have OKI := ok_init (C := c_Tree) (P := l.prog) (w := w) (base := base) FTm_init Y TCl G_unlinked_hosts G_join_all G_check_connected
  have M_hosts := (⟨⟨_, _, MTm_hosts, bTm_hosts, ok_hosts FTm_hosts Y TCl⟩⟩ : Fm l.prog w K mg base _ _ c_Tree "hosts" _ _)
  have M_links := (⟨⟨_, _, MTm_links, bTm_links, ok_links FTm_links Y TCl⟩⟩ : Fm l.prog w K mg base _ _ c_Tree "links" _ _)
  have G_tree_text := (⟨⟨_, _, m_tree_text, k_tree_text, b_tree_text, ok_tt F_tree_text TCl M_links M_hosts⟩⟩ : Fk l.prog w K mg base _ _ "tree_text" _ _)
  have G_split_text := (⟨⟨_, _, m_split_text, k_split_text, b_split_text, ok_sx F_split_text Y R_InvalidLine.rz⟩⟩ : Fk l.prog w K mg base _ _ "split_text" _ _)
  have G_check_no_rest := (⟨⟨_, _, m_check_no_rest, k_check_no_rest, b_check_no_rest, ok_nr F_check_no_rest Y R_InvalidLine.rz⟩⟩ : Fk l.prog w K mg base _ _ "check_no_rest" _ _)
  have G_leading_hosts := (⟨⟨_, _, m_leading_hosts, k_leading_hosts, b_leading_hosts, ok_lh F_leading_hosts Y G_is_host_name⟩⟩ : Fk l.prog w K mg base _ _ "leading_hosts" _ _)
  have G_is_next_link := (⟨⟨_, _, m_is_next_link, k_is_next_link, b_is_next_link, ok_nl F_is_next_link Y⟩⟩ : Fk l.prog w K mg base _ _ "is_next_link" _ _)
  have G_following_links := (⟨⟨_, _, m_following_links, k_following_links, b_following_links, ok_fl F_following_links Y R_InvalidLine (PySem.W.mg_of X G e_InvalidTree) (exm_of bP_T cl_T tP_T s_TT) G_is_next_link G_join_ends⟩⟩ : Fk l.prog w K mg base _ _ "following_links" _ _)
  have G_tree_of_lines := (⟨⟨_, _, m_tree_of_lines, k_tree_of_lines, b_tree_of_lines, ok_tol F_tree_of_lines Y gT R_InvalidLine (PySem.W.mg_of X G e_InvalidTree) (exm_of bP_T cl_T tP_T s_TT) G_leading_hosts G_following_links ⟨_, _, ⟨T_mk, aTm_init, iTm_init, T_kc⟩, bTm_init, OKI⟩⟩⟩ : Fk l.prog w K mg base _ _ "tree_of_lines" _ _)
  have G_parse_tree := (⟨⟨_, _, m_parse_tree, k_parse_tree, b_parse_tree, ok_pt F_parse_tree Y G_split_text G_tree_of_lines G_check_no_rest⟩⟩ : Fk l.prog w K mg base _ _ "parse_tree" _ _)
  have G_law_rng := (⟨⟨_, _, m_law_rng, k_law_rng, b_law_rng, ok_pot F_law_rng Y⟩⟩ : Fk l.prog w K mg base _ _ "_law_rng" _ _)
  have G_law_draw := (⟨⟨_, _, m_law_draw, k_law_draw, b_law_draw, ok_draw F_law_draw Y⟩⟩ : Fk l.prog w K mg base _ _ "_law_draw" _ _)
  have G_law_names := (⟨⟨_, _, m_law_names, k_law_names, b_law_names, ok_names F_law_names Y G_law_draw⟩⟩ : Fk l.prog w K mg base _ _ "_law_names" _ _)
  have G_law_shuffled := (⟨⟨_, _, m_law_shuffled, k_law_shuffled, b_law_shuffled, ok_shuf F_law_shuffled Y G_law_draw⟩⟩ : Fk l.prog w K mg base _ _ "_law_shuffled" _ _)
  have G_law_links := (⟨⟨_, _, m_law_links, k_law_links, b_law_links, ok_lksD F_law_links Y G_law_draw G_law_shuffled⟩⟩ : Fk l.prog w K mg base _ _ "_law_links" _ _)
  have G_law_is_name := (⟨⟨_, _, m_law_is_name, k_law_is_name, b_law_is_name, ok_isName F_law_is_name Y⟩⟩ : Fk l.prog w K mg base _ _ "_law_is_name" _ _)
  have G_law_lines_spoilt := (⟨⟨_, _, m_law_lines_spoilt, k_law_lines_spoilt, b_law_lines_spoilt, ok_ls F_law_lines_spoilt Y G_law_draw⟩⟩ : Fk l.prog w K mg base _ _ "_law_lines_spoilt" _ _)
  have G_law_spoilt := (⟨⟨_, _, m_law_spoilt, k_law_spoilt, b_law_spoilt, ok_spo F_law_spoilt Y G_law_draw G_law_lines_spoilt⟩⟩ : Fk l.prog w K mg base _ _ "_law_spoilt" _ _)
  have G_law_part := (⟨⟨_, _, m_law_part, k_law_part, b_law_part, ok_part F_law_part Y⟩⟩ : Fk l.prog w K mg base _ _ "_law_part" _ _)
  have G_law_line_right := (⟨⟨_, _, m_law_line_right, k_law_line_right, b_law_line_right, ok_lr F_law_line_right Y G_law_is_name G_law_part⟩⟩ : Fk l.prog w K mg base _ _ "_law_line_right" _ _)
  have G_law_read := (⟨⟨_, _, m_law_read, k_law_read, b_law_read, ok_read F_law_read Y G_law_line_right⟩⟩ : Fk l.prog w K mg base _ _ "_law_read" _ _)
  have G_law_told := (⟨⟨_, _, m_law_told, k_law_told, b_law_told, ok_told F_law_told Y (PySem.W.mg_of X G e_InvalidLine) (PySem.W.mg_of X G e_InvalidText) (PySem.W.mg_of X G e_InvalidTree) (PySem.W.mg_of X G e_RelinkTreeError) (PySem.W.mg_none_of X G zz_ValueError) X3 ⟨cg, ct⟩ TCl M_links M_hosts G_tree_text G_parse_tree⟩⟩ : Fg l.prog w K mg base _ _ "_law_told" _ _)
  have G_law_right := (⟨⟨_, _, m_law_right, k_law_right, b_law_right, ok_right F_law_right Y gT G_law_draw G_law_names G_law_links G_tree_text G_law_spoilt G_law_read G_law_told ⟨_, _, ⟨T_mk, aTm_init, iTm_init, T_kc⟩, bTm_init, OKI⟩⟩⟩ : Fg l.prog w K mg base _ _ "_law_right" _ _)
  exact ok_law F_law Y G_law_rng G_law_right
end My

open PySem PySem.W PyProof.Rows in
set_option maxRecDepth 100000 in
set_option maxHeartbeats 0 in
theorem PySem.Challenge.cw_relinktree_k92_tree_texts_spoilt_holds : PySem.Challenge.rw_relinktree_k92_tree_texts_spoilt.Holds := by
  w_on; o_law; k_head; (case hw => w_witness2)
  k_fill
  refine Gy.walk_g (l := PySem.Challenge.rw_relinktree_k92_tree_texts_spoilt) (n := 63) (k := 13) (x := "_law_script") (sp := My.spLaw) rfl (by decide) rfl ⟨rfl, by decide, by decide⟩ (fun w h Y => PySem.W.kIn_of Y) ?F (fun K H a ns hl hS => ⟨a, ns, rfl, hS, hl, fun _ => rfl⟩)
  case F =>
    intro w mg fa h KX G hmg
    refine' My.all_mk KX G hmg ?a_is_text_of ?l_is_text_of ?co_is_text_of ?k_is_text_of ?a_is_host_name ?l_is_host_name ?co_is_host_name ?k_is_host_name ?a_is_host ?l_is_host ?co_is_host ?k_is_host ?a_is_pair_of_hosts ?l_is_pair_of_hosts ?co_is_pair_of_hosts ?k_is_pair_of_hosts ?a_steps_towards ?l_steps_towards ?co_steps_towards ?k_steps_towards ?a_unlinked_hosts ?l_unlinked_hosts ?co_unlinked_hosts ?k_unlinked_hosts ?a_join_ends ?l_join_ends ?co_join_ends ?k_join_ends ?a_join_all ?l_join_all ?co_join_all ?k_join_all ?a_check_connected ?l_check_connected ?co_check_connected ?k_check_connected ?a_tree_text ?l_tree_text ?co_tree_text ?k_tree_text ?a_split_text ?l_split_text ?co_split_text ?k_split_text ?a_check_no_rest ?l_check_no_rest ?co_check_no_rest ?k_check_no_rest ?a_leading_hosts ?l_leading_hosts ?co_leading_hosts ?k_leading_hosts ?a_is_next_link ?l_is_next_link ?co_is_next_link ?k_is_next_link ?a_following_links ?l_following_links ?co_following_links ?k_following_links ?a_tree_of_lines ?l_tree_of_lines ?co_tree_of_lines ?k_tree_of_lines ?a_parse_tree ?l_parse_tree ?co_parse_tree ?k_parse_tree ?a_law_rng ?l_law_rng ?co_law_rng ?k_law_rng ?a_law_draw ?l_law_draw ?co_law_draw ?k_law_draw ?a_law_names ?l_law_names ?co_law_names ?k_law_names ?a_law_shuffled ?l_law_shuffled ?co_law_shuffled ?k_law_shuffled ?a_law_links ?l_law_links ?co_law_links ?k_law_links ?a_law_is_name ?l_law_is_name ?co_law_is_name ?k_law_is_name ?a_law_lines_spoilt ?l_law_lines_spoilt ?co_law_lines_spoilt ?k_law_lines_spoilt ?a_law_spoilt ?l_law_spoilt ?co_law_spoilt ?k_law_spoilt ?a_law_part ?l_law_part ?co_law_part ?k_law_part ?a_law_line_right ?l_law_line_right ?co_law_line_right ?k_law_line_right ?a_law_read ?l_law_read ?co_law_read ?k_law_read ?a_law_told ?l_law_told ?co_law_told ?k_law_told ?a_law_right ?l_law_right ?co_law_right ?k_law_right ?a_law ?l_law ?co_law ?k_law ?v_LETTERS ?v_LONGEST_NAME ?z_len ?z_range ?z_abs ?z_max ?z_min ?z_divmod ?z_isinstance ?z_str ?z_int ?z_bool ?z_tuple ?z_list ?z_set ?z_dict ?z_all ?z_any ?z_repr ?z_sorted ?z_enumerate ?z_zip ?e_InvalidTree ?S_InvalidTree ?e_InvalidLine ?S_InvalidLine ?e_Tree ?T_pg ?T_hd ?T_po ?T_sa ?T_mk ?T_kc ?T_nlinked ?aTm_init ?iTm_init ?lTm_init ?cTm_init ?kTm_init ?dlTm_init ?dqTm_init ?aTm_hosts ?iTm_hosts ?lTm_hosts ?cTm_hosts ?kTm_hosts ?aTm_links ?iTm_links ?lTm_links ?cTm_links ?kTm_links ?cg ?ct ?cl_L ?tP_L ?e_InvalidText ?cl_X ?tP_X ?cl_T ?tP_T ?e_RelinkTreeError ?cl_B ?tP_B ?bP_L ?s_LL ?ne_LX ?s_LX ?ne_LT ?s_LT ?ne_LB ?s_LB ?sb_LValueError ?f_Lline ?bP_T ?s_TT ?zz_ValueError
    (case a_is_text_of => k_is)
    (case l_is_text_of => k_is)
    (case co_is_text_of => k_is)
    (case k_is_text_of => k_is)
    (case a_is_host_name => k_is)
    (case l_is_host_name => k_is)
    (case co_is_host_name => k_is)
    (case k_is_host_name => k_is)
    (case a_is_host => k_is)
    (case l_is_host => k_is)
    (case co_is_host => k_is)
    (case k_is_host => k_is)
    (case a_is_pair_of_hosts => k_is)
    (case l_is_pair_of_hosts => k_is)
    (case co_is_pair_of_hosts => k_is)
    (case k_is_pair_of_hosts => k_is)
    (case a_steps_towards => k_is)
    (case l_steps_towards => k_is)
    (case co_steps_towards => k_is)
    (case k_steps_towards => k_is)
    (case a_unlinked_hosts => k_is)
    (case l_unlinked_hosts => k_is)
    (case co_unlinked_hosts => k_is)
    (case k_unlinked_hosts => k_is)
    (case a_join_ends => k_is)
    (case l_join_ends => k_is)
    (case co_join_ends => k_is)
    (case k_join_ends => k_is)
    (case a_join_all => k_is)
    (case l_join_all => k_is)
    (case co_join_all => k_is)
    (case k_join_all => k_is)
    (case a_check_connected => k_is)
    (case l_check_connected => k_is)
    (case co_check_connected => k_is)
    (case k_check_connected => k_is)
    (case a_tree_text => k_is)
    (case l_tree_text => k_is)
    (case co_tree_text => k_is)
    (case k_tree_text => k_is)
    (case a_split_text => k_is)
    (case l_split_text => k_is)
    (case co_split_text => k_is)
    (case k_split_text => k_is)
    (case a_check_no_rest => k_is)
    (case l_check_no_rest => k_is)
    (case co_check_no_rest => k_is)
    (case k_check_no_rest => k_is)
    (case a_leading_hosts => k_is)
    (case l_leading_hosts => k_is)
    (case co_leading_hosts => k_is)
    (case k_leading_hosts => k_is)
    (case a_is_next_link => k_is)
    (case l_is_next_link => k_is)
    (case co_is_next_link => k_is)
    (case k_is_next_link => k_is)
    (case a_following_links => k_is)
    (case l_following_links => k_is)
    (case co_following_links => k_is)
    (case k_following_links => k_is)
    (case a_tree_of_lines => k_is)
    (case l_tree_of_lines => k_is)
    (case co_tree_of_lines => k_is)
    (case k_tree_of_lines => k_is)
    (case a_parse_tree => k_is)
    (case l_parse_tree => k_is)
    (case co_parse_tree => k_is)
    (case k_parse_tree => k_is)
    (case a_law_rng => k_is)
    (case l_law_rng => k_is)
    (case co_law_rng => k_is)
    (case k_law_rng => k_is)
    (case a_law_draw => k_is)
    (case l_law_draw => k_is)
    (case co_law_draw => k_is)
    (case k_law_draw => k_is)
    (case a_law_names => k_is)
    (case l_law_names => k_is)
    (case co_law_names => k_is)
    (case k_law_names => k_is)
    (case a_law_shuffled => k_is)
    (case l_law_shuffled => k_is)
    (case co_law_shuffled => k_is)
    (case k_law_shuffled => k_is)
    (case a_law_links => k_is)
    (case l_law_links => k_is)
    (case co_law_links => k_is)
    (case k_law_links => k_is)
    (case a_law_is_name => k_is)
    (case l_law_is_name => k_is)
    (case co_law_is_name => k_is)
    (case k_law_is_name => k_is)
    (case a_law_lines_spoilt => k_is)
    (case l_law_lines_spoilt => k_is)
    (case co_law_lines_spoilt => k_is)
    (case k_law_lines_spoilt => k_is)
    (case a_law_spoilt => k_is)
    (case l_law_spoilt => k_is)
    (case co_law_spoilt => k_is)
    (case k_law_spoilt => k_is)
    (case a_law_part => k_is)
    (case l_law_part => k_is)
    (case co_law_part => k_is)
    (case k_law_part => k_is)
    (case a_law_line_right => k_is)
    (case l_law_line_right => k_is)
    (case co_law_line_right => k_is)
    (case k_law_line_right => k_is)
    (case a_law_read => k_is)
    (case l_law_read => k_is)
    (case co_law_read => k_is)
    (case k_law_read => k_is)
    (case a_law_told => k_is)
    (case l_law_told => k_is)
    (case co_law_told => k_is)
    (case k_law_told => k_is)
    (case a_law_right => k_is)
    (case l_law_right => k_is)
    (case co_law_right => k_is)
    (case k_law_right => k_is)
    (case a_law => k_is)
    (case l_law => k_is)
    (case co_law => k_is)
    (case k_law => k_is)
    (case v_LETTERS => k_is)
    (case v_LONGEST_NAME => k_is)
    (case z_len => k_is)
    (case z_range => k_is)
    (case z_abs => k_is)
    (case z_max => k_is)
    (case z_min => k_is)
    (case z_divmod => k_is)
    (case z_isinstance => k_is)
    (case z_str => k_is)
    (case z_int => k_is)
    (case z_bool => k_is)
    (case z_tuple => k_is)
    (case z_list => k_is)
    (case z_set => k_is)
    (case z_dict => k_is)
    (case z_all => k_is)
    (case z_any => k_is)
    (case z_repr => k_is)
    (case z_sorted => k_is)
    (case z_enumerate => k_is)
    (case z_zip => k_is)
    (case e_InvalidTree => k_is)
    (case S_InvalidTree =>
      refine' My.raw_InvalidTree ?ii ?ov ?sa ?ga ?gg ?ca ?ex ?ob ?hd ?kp ?ty ?ini ?tf ?li ?ci ?ki ?n0 ?n1
      (case ii => kx_is)
      (case ov => kx_is)
      (case sa => k_is)
      (case ga => k_is)
      (case gg => k_is)
      (case ca => k_is)
      (case ex => k_is)
      (case ob => k_is)
      (case hd => k_is)
      (case kp => k_is)
      (case ty => k_is)
      (case ini => k_is)
      (case tf => k_is)
      (case li => k_is)
      (case ci => k_is)
      (case ki => k_is)
      (case n0 => k_is)
      (case n1 => k_is))
    (case e_InvalidLine => k_is)
    (case S_InvalidLine =>
      refine' My.raw_InvalidLine ?ii ?ov ?sa ?ga ?gg ?ca ?ex ?ob ?hd ?kp ?ty ?ini ?tf ?li ?ci ?ki ?n0
      (case ii => kx_is)
      (case ov => kx_is)
      (case sa => k_is)
      (case ga => k_is)
      (case gg => k_is)
      (case ca => k_is)
      (case ex => k_is)
      (case ob => k_is)
      (case hd => k_is)
      (case kp => k_is)
      (case ty => k_is)
      (case ini => k_is)
      (case tf => k_is)
      (case li => k_is)
      (case ci => k_is)
      (case ki => k_is)
      (case n0 => k_is))
    (case e_Tree => k_is)
    (case T_pg => k_is)
    (case T_hd => k_is)
    (case T_po => k_is)
    (case T_sa => k_is)
    (case T_mk => k_is)
    (case T_kc => k_is)
    (case T_nlinked => k_is)
    (case aTm_init => k_is)
    (case iTm_init => k_is)
    (case lTm_init => k_is)
    (case cTm_init => k_is)
    (case kTm_init => k_is)
    (case dlTm_init => k_is)
    (case dqTm_init => exact ⟨_, _, rfl⟩)
    (case aTm_hosts => k_is)
    (case iTm_hosts => k_is)
    (case lTm_hosts => k_is)
    (case cTm_hosts => k_is)
    (case kTm_hosts => k_is)
    (case aTm_links => k_is)
    (case iTm_links => k_is)
    (case lTm_links => k_is)
    (case cTm_links => k_is)
    (case kTm_links => k_is)
    (case cg => k_is)
    (case ct => k_is)
    (case cl_L => k_is)
    (case tP_L => k_is)
    (case e_InvalidText => k_is)
    (case cl_X => k_is)
    (case tP_X => k_is)
    (case cl_T => k_is)
    (case tP_T => k_is)
    (case e_RelinkTreeError => k_is)
    (case cl_B => k_is)
    (case tP_B => k_is)
    (case bP_L => k_is)
    (case s_LL => k_is)
    (case ne_LX => decide)
    (case s_LX => k_is)
    (case ne_LT => decide)
    (case s_LT => k_is)
    (case ne_LB => decide)
    (case s_LB => k_is)
    (case sb_LValueError => k_is)
    (case f_Lline => k_is)
    (case bP_T => k_is)
    (case s_TT => k_is)
    (case zz_ValueError => k_is)

