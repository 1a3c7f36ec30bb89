import PyProof.Rows.All
import Wide.All
import OpenK.AllK
import Wide.FinOn
import HandS.ForMost
import HandS.IsInst
import HandS.Walk
import KE.KExcPX
import KE.KExcInit
import KE.KExcIs
import HandS.ExcInit
import PyProof.ReprLen
import HandS.ForExc
import HandS.ExcField
import HandS.TryMany
import HandS.CallSlots
import HandS.Strs
import HandS.TupAny
import PyProof.ReprHeadsEmpty
import HandS.WideBits
import HandS.DeepEq
import HandS.FStr
import HandS.RaiseMore
import PyProof.StrLawsChain
import HandS.Style
import PyProof.EqKinds
import PyProof.FactsAll.dict_1
import PyProof.FactsAll.subtypes_4
import PyProof.FactsAll.subtypes_3
import PyProof.FactsAll.str_1
import PyProof.ReprText
import HandS.Defaults
import HandS.CallLocal
import HandS.WrittenGet
import KE.IntTextText
import KE.KExcLine
import PySem.Challenge.RW_relinktree_k23_item_texts_spoilt
set_option Elab.async false
set_option linter.all false
set_option maxRecDepth 100000
set_option maxHeartbeats 4000000
/-! Defs whose promise needs to know that no repr is under way: the layer's def, call and end once more with that premise. -/
namespace Gy
open PySem PySem.Spec PyProof.Rows L2

/-- repr of data at an address -/
theorem repr_dat {X : Cx} (hg : X.A.guards = some []) (hu : X.A.units + 70 < cLine) :
    CallR X (.builtin "repr") (fun xs H Q => ∃ a d, xs = [.ref a] ∧ Dp X.K H (.ref a) d ∧ d.showable = true ∧ d.hasDict = false ∧ d.depth ≤ 60 ∧
      d.shown.length ≤ sizeLine ∧ Q (.str d.shown) H) := by
  intro pins s σ H xs us Q I r h
  obtain ⟨a, d, rfl, hd, h1, h2, h3, h4, q⟩ := h
  obtain ⟨u, rfl, ru⟩ := vals1 r
  obtain ⟨as, rd⟩ := Dp.reads I d _ u hd ru
  cases ru
  refine repr_of_reads' rd h1 (fun z => ?_) hg (by omega) (fun _ _ e => e) (fun h' u tk hk => ?_) h4
  · rw [h2] at z
    cases z
  · exact ⟨.str _, H, I.kept hk, ⟨u, rfl⟩, q⟩

/-- a def's promise, where no repr is under way -/
structure FnG (P : Program) (w : World) (K : PySem.W.Frag) (mg : Str → Option Value) (base : Heap)
    (CX : CXT) (k : Nat) (f : Addr) (fd : FuncData) (ps : List Str) (sp : Sp) : Prop where
  ln : ∀ {vs H Q E}, sp vs H Q E → vs.length = ps.length
  go : ∀ {A outer s H args us vs Q E}, A.guards = some [] → Room k A → Env0 P w K mg base A outer s H →
    BindsTo s fd args (ps.zip us) → Vals vs us → sp vs H Q E → codeAny (model P w) A (.call (.ref f) args) (CR CX outer P w H s Q E) s

section
variable {P : Program} {w : World} {K : PySem.W.Frag} {mg : Str → Option Value} {base : Heap} {CX : CXT} {k : Nat} {f : Addr} {fd : FuncData} {ps N : List Str} {sp : Sp}
theorem FnG.up {j : Nat} (F : FnG P w K mg base CX j f fd ps sp) (h : j ≤ k) : FnG P w K mg base CX k f fd ps sp :=
  ⟨F.ln, fun g hr => F.go g (hr.mono h)⟩
theorem FnG.of (F : FnOk P w K mg base CX k f fd ps sp) : FnG P w K mg base CX k f fd ps sp :=
  ⟨fun h => F.len _ _ _ _ h, fun _ hr e b v h => F.run _ _ _ _ _ _ _ _ _ hr e b v h⟩

theorem fun_g {x qual : Str} {st : Stmt} (F : Fun K x qual st f fd) (S : FnScope N ps (defScope st)) (ln : ∀ {vs H Q E}, sp vs H Q E → vs.length = ps.length)
    (bd : ∀ (cdv : Value) (A : Around) (outer : List Env) (s : Shared) (H : Hp) (vs : List V) (Q : VK) (E : XK), A.guards = some [] →
      Room k (A.deeper (envOfC qual (defScope st) s.heap.objs.size f cdv)) → sp vs H Q E →
      ∃ t, PSs (cxOf CX P w K mg base N qual (defScope st) f cdv A outer s H E) (defBody st) t ∧
        t { nx := fun _ H' => Q .non H', rt := Q } (start N vs) H) :
    FnG P w K mg base CX (k + 1) f fd ps sp := by
  obtain ⟨oc, od, kV, doc, pm, an, cdv, ct, osl, rfl, lk, hcd⟩ := F.ex
  refine ⟨ln, ?_⟩
  intro A outer s H args us vs Q E g hr e0 hb rl hsp
  have stay : ∀ b o, base.get? b = some o → s.heap.get? b = some o := fun b o e => (e0.bs b o e).1
  have kin := e0.mod.kin.keeps stay
  have nol := e0.mod.nolimit.keeps stay
  refine codeAny_call_function hr.depth (kin _ _ lk) rfl S.co S.gen rfl (PySem.W.codeRec_of kin hcd) (hb _ _ _ _ ?_)
  refine wpAny_newFunctionEnv_cells S.kind ?_ ?_
  · rintro ⟨n, v⟩ hy
    refine (S.par n (List.of_mem_zip hy).1).imp id fun q => ⟨q, ?_⟩
    exact PySem.W.cellsFrom_some _ _ _ (.inl q)
  · rintro env rfl s1 x
    refine ⟨nol.keeps x.toInCall.keep, codeAny_func ?_⟩
    obtain ⟨t, ht, hq⟩ := bd cdv A outer s H vs Q E g (hr.deeper _) hsp
    have I := inv_start (CX := CX) (E := E) (outer := outer) S hr.hd e0 (ln hsp) rl x
    refine wpAny_mono (ht.run [] s1 (start N vs) H _ I hq) ?_ (fun _ _ z => z)
    rintro (_ | _ | _ | u) s' z
    all_goals first
      | (obtain ⟨σ', H', J, q⟩ := z
         exact ⟨V.non, H', J.os, J.bare, J.base, J.hok, rfl, q⟩)
      | (obtain ⟨_, _, _, q⟩ := z
         exact q.elim)
      | (obtain ⟨v, σ', H', J, rv, q⟩ := z
         exact ⟨v, H', J.os, J.bare, J.base, J.hok, rv, q⟩)
end
end Gy

namespace Gy
open PySem PySem.Spec PyProof.Rows L2

/-- the readings of the two calls below -/
def tG (sp : Sp) (E : XK) (t : TA) : TE := fun σ H Q => t σ H fun vs H1 => sp vs H1 Q E
def tKw0 (sp : Sp) (gV : List V → List V → List V) (E : XK) (tk : TA) : TE := fun σ H Q => tk σ H fun zs H1 => sp (gV [] zs) H1 Q E
section
variable {X : Cx} {CX : CXT} {k : Nat} {f : Addr} {fd : FuncData} {ps ks : List Str} {sp : Sp} {E : XK} {x : Str} {p pos : Pos} {e : Expr} {es : List Expr} {kws : List Keyword} {t tk : TA}
variable {g : List Value → List Value → List Value} {gV : List V → List V → List V}
/-- f(e, ..) of a def that wants to know of repr -/
theorem pe_callG (F : FnG X.prog X.w X.K X.mg X.base CX k f fd ps sp) (gd : X.A.guards = some []) (hr : Room k X.A) (hg : Gl X x)
    (hm : X.mg x = some (.ref f)) (hk : PySem.W.keepIn X.K (.ref f) = true) (hb : Binds X.K fd ps []) (hx : Passes CX X E) (ha : PA X (e :: es) t)
    (hdb : (x == ("__debug__" : Str)) = false := by decide) (he : starEach (e :: es) X.env = (false, eval e X.env) :: starEach es X.env := by rfl)
    (hpl : (backTo pos (starEach es X.env)).any (·.1) = false := by rfl) :
    PE X (.Call (.Name x p) (e :: es) [] pos) (tG sp E t) := by
  constructor
  intro pins s σ H Q I h
  refine wpAny_Call_Name_kw (ld_glob I hg hm ?_ hdb)
  refine PySem.W.callWith_K (h₀ := X.base) I.ok.mod.kin hk (thn (ha.run pos pins s σ H _ I h) ?_) he hpl
  rintro us s1 ⟨vs, H1, I1, r, q⟩
  refine ⟨I1.kIn, wpAny_call (codeAny_mono (F.go (args := ⟨us, []⟩) gd hr I1.env0 ?_ r q) ?_)⟩
  · have b := hb s1 us I1.kIn (by rw [List.append_nil, ← r.length]; exact F.ln q)
    rwa [List.append_nil] at b
  · rintro (er | (_ | _ | _ | u)) s' z
    · exact hx pins σ H1 s1 er s' I1 z
    · exact z.elim
    · exact z.elim
    · exact z.elim
    · exact I1.after z
/-- f(k = v, ..), nothing by position -/
theorem pe_kw0 (F : FnOk X.prog X.w X.K X.mg X.base CX k f fd ps sp) (hr : Room k X.A) (hg : Gl X x) (hm : X.mg x = some (.ref f))
    (hk : PySem.W.keepIn X.K (.ref f) = true) (hb : KBinds X.K fd ps ks g gV) (hx : Passes CX X E) (hkw : PK X kws tk)
    (hall : (backToKw pos (keywordEach kws X.env)).all (·.1.isSome) = true := by rfl) (hks : (backToKw pos (keywordEach kws X.env)).filterMap (·.1) = ks := by rfl)
    (hdb : (x == ("__debug__" : Str)) = false := by decide)
    (hpl : ((backTo pos (starEach [] X.env)).any (·.1) || (backToKw pos (keywordEach kws X.env)).any (·.1.isNone)) = false := by rfl) :
    PE X (.Call (.Name x p) [] kws pos) (tKw0 sp gV E tk) := by
  constructor
  intro pins s σ H Q I h
  refine wpAny_Call_Name_kw (ld_glob I hg hm ?_ hdb)
  refine PySem.W.callWith_KW0 (h₀ := X.base) I.ok.mod.kin hk hall (thn (hkw.run pos pins s σ H _ I h) ?_) hpl
  rintro ws s2 ⟨zs, H2, I2, rz, q2⟩
  rw [hks]
  exact ⟨I2.kIn, run_fnk (us := []) F hr hb hx I2 .nil rz q2⟩
end

/-- the law's call, its def a FnG -/
theorem end_g {P : Program} {w : World} {K : PySem.W.Frag} {mg mb : Str → Option Value} {CX : CXT} {k : Nat} {fa a : Addr} {fd : FuncData} {x : Str} {sp : Sp}
    {s : Shared} {vs : List Value} {ns : List Int} (kin : K.In s.heap) (hns : s.heap.Ns mainGlobals mg) (hb : s.heap.Ns builtinsNs mb)
    (hbb : ∀ x : Str, x ≠ "__name__" → mb x = bootBuiltins x) (nol : s.heap.NoLimit) (hg : s.gens = #[])
    (ha : s.heap.get? a = some { cls := .type "list", data := .seq vs.toArray }) (hi : IntsAre vs ns) (hl : ns.length ≤ sizeLine) (hr : Room k callerA)
    (F : ∀ base : Heap, K.In base → base.Ns mainGlobals mg → FnG P w K mg base CX k fa fd [x] sp)
    (bnd : ∀ (s : Shared) (u : Value), BindsTo s fd ⟨[u], []⟩ [(x, u)])
    (hsp : ∀ H : Hp, Only H → SqL K H a (ns.map V.int) → sp [.ref a] H (fun v _ => v = .bl true) fun _ _ _ => False)
    (hCX : ∀ H e s', CX [] H s (fun _ _ _ => False) e s' → False) :
    codeAny (model P w) callerA (.call (.ref fa) ⟨[.ref a], []⟩)
      (fun r s' => r = .ok (.ret (.bool true)) ∧ OldK s.heap s'.heap ∧ s'.os = s.os ∧ AllBare s'.gens) s := by
  have main : ∀ H : Hp, Only H → SqL K H a (ns.map V.int) → HOk P w H s.heap → (∀ b, H b ≠ none → b = a) → (H a ≠ none → K.lookup a = none) →
      codeAny (model P w) callerA (.call (.ref fa) ⟨[.ref a], []⟩)
        (fun r s' => r = .ok (.ret (.bool true)) ∧ OldK s.heap s'.heap ∧ s'.os = s.os ∧ AllBare s'.gens) s := by
    intro H only seq hok alone notK
    have noD : ∀ {b o es ep}, s.heap.get? b = some o → o.data = .dict es ep → H b = none := by
      intro b o es ep e d
      cases q : H b with
      | none => rfl
      | some u =>
        obtain rfl := alone b (by rw [q]; exact fun z => nomatch z)
        rw [ha] at e
        cases e
        exact nomatch d
    have nsB : ∀ {b m}, s.heap.Ns b m → (hidT s.heap H).Ns b m := by
      rintro b m ⟨o, es, ep, e, d, r⟩
      exact ⟨o, es, ep, hidT_get e (noD e d), d, r⟩
    have kB : K.In (hidT s.heap H) := by
      intro b o e
      refine hidT_get (kin b o e) ?_
      cases q : H b with
      | none => rfl
      | some u =>
        obtain rfl := alone b (by rw [q]; exact fun z => nomatch z)
        rw [notK (by rw [q]; exact fun z => nomatch z)] at e
        cases e
    obtain ⟨mc, l1, l2⟩ := nol
    have e0 : Env0 P w K mg (hidT s.heap H) callerA [] s H := by
      refine ⟨rfl, ⟨kB, nsB hns, ⟨mb, nsB hb, hbb⟩, ⟨mc, nsB l1, l2⟩⟩, fun b o e => of_hidT e, Nat.le_of_eq (hidT_size _ _), trivial, ?_, hok, .of_eq hg⟩
      intro b z
      exact nomatch (show b ∈ ([] : List Addr) from z)
    have run := (F _ kB (nsB hns)).go (A := callerA) (args := ⟨[.ref a], []⟩) (us := [.ref a]) (vs := [V.ref a]) rfl hr e0 (bnd s (.ref a)) (.cons rfl .nil) (hsp H only seq)
    refine codeAny_mono run ?_
    rintro (er | (_ | _ | _ | u)) s' z
    · exact (hCX H er s' z).elim
    · exact z.elim
    · exact z.elim
    · exact z.elim
    · obtain ⟨v, H', os, bare, un, hok', rv, q⟩ := z
      cases (show v = .bl true from q)
      cases (show u = Value.bool true from rv)
      refine ⟨rfl, OldK.of_keep fun b o e => ?_, os, bare⟩
      rcases only b with n | ⟨ob, xs, y⟩
      · exact un.keep b o e n (fun z => nomatch (show b ∈ ([] : List Addr) from z)) (fun z => nomatch z)
      · obtain ⟨e1, _⟩ := hok b _ y
        obtain ⟨e2, _⟩ := hok' b _ (un.frzs b ob _ y)
        rw [e] at e1
        cases e1
        exact e2
  have rv := vals_ints hi
  cases hk : K.lookup a with
  | some o =>
    have e := kin a o hk
    rw [ha] at e
    cases e
    refine main (fun _ => none) (fun _ => .inl rfl) (.inr ⟨_, vs.toArray, _, hk, rfl, rfl, rfl, ?_, rv⟩) (fun b u z => nomatch z) (fun b z => absurd rfl z) (fun z => absurd rfl z)
    rw [List.size_toArray, hi.length]
    exact hl
  | none =>
    let ob : Obj := { cls := .type "list", data := .seq vs.toArray }
    refine main (fun b => if b = a then some (.frz ob (.lst (ns.map V.int))) else none) (fun b => ?_) (.inl (.inr ⟨ob, if_pos rfl⟩)) (fun b u z => ?_) (fun b z => ?_) (fun _ => hk)
    · by_cases q : b = a
      · exact .inr ⟨_, _, if_pos q⟩
      · exact .inl (if_neg q)
    · by_cases q : b = a
      · have y := (if_pos q).symm.trans z
        cases y
        subst q
        exact ⟨ha, by rw [List.length_map]; exact hl, vs, _, rv, ha⟩
      · have y := (if_neg q).symm.trans z
        cases y
    · by_cases q : b = a
      · exact q
      · exact absurd (if_neg q) z

/-- what k_head leaves, from a law that is a FnG -/
theorem walk_g {l : PySem.W.OpenLaw} {n k : Nat} {q : Program} {loose : List Str} {XP : (Str → Option Value) → Heap → Prop} {YP : World → Heap → Prop} {d : DefRec}
    {K : Params → PySem.W.Frag} {sp : PySem.W.Frag → Sp} {x : Str} (hn : l.most = some n) (hn2 : n ≤ sizeLine) (hdf : d.params.defaults = []) (hr : Room k callerA)
    (hY : ∀ (w : World) (h : Heap), YP w h → (K w.params).In h)
    (F : ∀ (w : World) (mg : Str → Option Value) (fa : Addr) (h : Heap), (K w.params).In h → h.Ns mainGlobals mg → mg d.name = some (.ref fa) →
      ∃ fd : FuncData, (∀ (s : Shared) (u : Value), BindsTo s fd ⟨[u], []⟩ [(x, u)]) ∧
        ∀ base : Heap, (K w.params).In base → base.Ns mainGlobals mg → FnG l.prog w (K w.params) mg base CX0 k fa fd [x] (sp (K w.params)))
    (hsp : ∀ (K : PySem.W.Frag) (H : Hp) (a : Addr) (ns : List Int), ns.length ≤ n → SqL K H a (ns.map V.int) → sp K [.ref a] H (fun v _ => v = .bl true) fun _ _ _ => False) :
    PySem.W.WalkO q loose XP YP l.row.toRowW d [] (fun f vs => PySem.call f vs) := by
  refine Att.attach_call hn hdf ?_
  intro w s₀ s₁ mg mb fa o pm cd doc a vs ns G Y ho hd hcd hmg hobj hints hlen hg
  have kin := hY w _ Y
  obtain ⟨fd, hb, hF⟩ := F w mg fa _ kin G.T.g hmg
  exact end_g kin G.T.g G.T.b G.T.builtins G.T.nolimit hg hobj hints (Nat.le_trans hlen hn2) hr hF hb (fun H _ hS => hsp _ H a ns hlen hS) (fun _ _ _ z => z)
end Gy

/-! An own exception class called with keywords: BaseException.__new__ takes them and forgets them, the own __init__ gets them. -/
namespace PySem
namespace Xg
open Builtin Builtin.ObjectAttr
section
variable {M : Model} {A : Around} {E : Value → Shared → Prop} {h : Heap} {g : Array GenState} {d : Drawn} {t : Nat} {os : OsState}
variable {nm q : Str} {C N : Addr} {bs bm bmB : List Value} {hdct : Bool} {sn : List Str} {sub : List Value} {ab : Bool} {col : Option Bool} {dd : Option Addr} {k0 k1 k2 k3 k5 : Option Value} {B newId initId : String}
theorem kw_check (F : ExcBaseFacts B newId initId bmB) (hT : ∀ X : String, bm.contains (.type X) = bmB.contains (.type X)) {us : List Value} {kw : List (Str × Value)} {Q : Unit → Shared → Prop}
    (cl : h.get? C = some (excClassObj nm q C N bs bm hdct sn sub ab col dd k0 k1 k2 k3 k5 newId)) (z : Q () ⟨h, g, d, t, os⟩) :
    wpAny M A (checkBuiltinCall newId ⟨.ref C :: us, kw⟩) Q E ⟨h, g, d, t, os⟩ := by
  have has : (Value.ref C :: bm).contains (.type B) = true := by
    rw [List.contains_cons, hT, F.hasB, Bool.or_true]
  have star := F.noStar
  simp only [checkBuiltinCall, F.newKind, F.newSplit, F.newRow]
  repeat (first
    | refine wpAny_loadPart_at cl ?_
    | (refine wpAny_isSubtype_exc cl ?_; rw [has])
    | refine wpAny_staticBase_exc cl ?_
    | refine wpAny_madeBy_exc cl ?_
    | simp only [bne_self_eq_false, Bool.false_eq_true, if_false]
    | wp_step)
  exact z
end
section
variable {prog : Program} {w : World} {A : Around} {E : Value → Shared → Prop} {R : Result → Shared → Prop} {h : Heap} {g : Array GenState} {d : Drawn} {t : Nat} {os : OsState}
variable {nm q : Str} {C N : Addr} {bs bm bmB : List Value} {hdct : Bool} {sn : List Str} {sub : List Value} {ab : Bool} {col : Option Bool} {dd : Option Addr} {k0 k1 k2 k3 k5 : Option Value} {B newId initId : String}
theorem kw_new (F : ExcBaseFacts B newId initId bmB) (hT : ∀ X : String, bm.contains (.type X) = bmB.contains (.type X)) {us : List Value} {kw : List (Str × Value)}
    (cl : h.get? C = some (excClassObj nm q C N bs bm hdct sn sub ab col dd k0 k1 k2 k3 k5 newId))
    (z : R (.ok (.ret (.ref (h.objs.size + 1)))) ⟨(h.push (W.kdv_tup us)).push (PX.excO C h.objs.size), g, d, t, os⟩) (len : us.length ≤ sizeLine) :
    codeAny (model prog w) A (.builtin newId ⟨.ref C :: us, kw⟩) R ⟨h, g, d, t, os⟩ := by
  have ends := F.ends
  have hB : (Value.ref C :: bm).contains (.type B) = true := by
    rw [List.contains_cons, hT, F.hasB, Bool.or_true]
  have hA : (Value.ref C :: bm).contains (.type "AttributeError") = false := by
    rw [List.contains_cons, hT, F.noAttr]
    rfl
  have hN : (Value.ref C :: bm).contains (.type "NameError") = false := by
    rw [List.contains_cons, hT, F.noName]
    rfl
  refine codeAny_builtinAt F.entry ?_
  unfold Builtin.«BaseException.__new__»
  refine wpAt_bind ?_
  show wpAt _ _ _ (stack >>= _) _ _ _
  refine wpAt_bind (wpAt_stack fun p below => wpAt_of_wpAny ?_)
  wp_walk
  refine wpAt_of_wpAny ?_
  rw [F.owner]
  repeat (first
    | with_reducible refine wpAny_madeHere_exc F.canon cl ?_
    | with_reducible refine wpAny_loadPart_at cl ?_
    | (with_reducible refine wpAny_isSubtype_exc cl ?_; first | rw [hB] | rw [hA] | rw [hN])
    | wp_step)
  show R _ _
  rw [Heap.size_push]
  exact z
theorem kw_type (F : ExcBaseFacts B newId initId bmB) (hT : ∀ X : String, bm.contains (.type X) = bmB.contains (.type X)) {us : List Value} {kw : List (Str × Value)} {fI : Addr} {Q : Fin → Shared → Prop}
    (cl : h.get? C = some (excClassObj nm q C N bs bm hdct sn sub ab col dd k0 k1 k2 k3 k5 newId))
    (hi : W.Looks (model prog w) h (typeLookup (.ref C) "__init__") (some (.ref fI))) (hb : ∀ self, W.Looks (model prog w) h (bindSpecial (.ref fI) self) (.ref fI, [self]))
    (len : us.length ≤ sizeLine)
    (z : codeAny (model prog w) A (.call (.ref fI) ⟨.ref (h.objs.size + 1) :: us, kw⟩)
      (fun r s' => match r with | .ok (.ret v) => v = .none ∧ Q (.done (.ret (.ref (h.objs.size + 1)))) s' | .ok _ => False | .error e => E e s')
      ⟨(h.push (W.kdv_tup us)).push (PX.excO C h.objs.size), g, d, t, os⟩) :
    wpAny (model prog w) A (Builtin.«type.__call__» ⟨.ref C :: us, kw⟩) Q E ⟨h, g, d, t, os⟩ := by
  repeat (first
    | with_reducible refine wpAny_loadPart_at cl ?_
    | with_reducible refine wpAny_madeBy_exc cl ?_
    | wp_step)
  refine codeAny_call_builtin_code (Code.quiet_builtin _ F.quiet) (kw_check F hT cl ?_)
  refine kw_new F hT cl ?_ len
  show wpAny _ _ _ _ _ _
  have keep : ∀ b o, h.get? b = some o → ((h.push (W.kdv_tup us)).push (PX.excO C h.objs.size)).get? b = some o := fun b o e =>
    Heap.get?_push_of_some _ (Heap.get?_push_of_some _ e)
  have cl1 := keep _ _ cl
  have new : ((h.push (W.kdv_tup us)).push (PX.excO C h.objs.size)).get? (h.objs.size + 1) = some (PX.excO C h.objs.size) := by heap_get
  have self : (Value.ref C :: bm).contains (.ref C) = true := by simp
  have i1 := hi.keeps keep
  have b1 := (hb (.ref (h.objs.size + 1))).keeps keep
  unfold isInstance
  repeat (first
    | with_reducible refine wpAny_loadPart_at new ?_
    | (with_reducible refine wpAny_isSubtype_exc cl1 ?_; rw [self])
    | wp_step)
  show wpAny _ _ (typeLookup (.ref C) _) _ _ _
  refine i1.at ?_
  refine wpAny_holding (wpAny_bind (b1.at ?_))
  refine wpAny_bind (wpAny_call (codeAny_mono z fun r s' y => ?_))
  rcases r with e | (v | _ | _ | _) <;> first | exact y | exact y.elim | skip
  obtain ⟨rfl, y⟩ := y
  first
    | exact wpAny_pure (wpAny_pure y)
    | (wp_walk; exact y)
theorem kw_call (F : ExcBaseFacts B newId initId bmB) (hT : ∀ X : String, bm.contains (.type X) = bmB.contains (.type X)) {us : List Value} {kw : List (Str × Value)} {fI : Addr}
    (cl : h.get? C = some (excClassObj nm q C N bs bm hdct sn sub ab col dd k0 k1 k2 k3 k5 newId))
    (hi : W.Looks (model prog w) h (typeLookup (.ref C) "__init__") (some (.ref fI))) (hb : ∀ self, W.Looks (model prog w) h (bindSpecial (.ref fI) self) (.ref fI, [self]))
    (len : us.length ≤ sizeLine)
    (z : codeAny (model prog w) (A.under (.builtin "type.__call__" ⟨.ref C :: us, kw⟩)) (.call (.ref fI) ⟨.ref (h.objs.size + 1) :: us, kw⟩) (W.InitBack (h.objs.size + 1) R)
      ⟨(h.push (W.kdv_tup us)).push (PX.excO C h.objs.size), g, d, t, os⟩) :
    codeAny (model prog w) A (.call (.ref C) ⟨us, kw⟩) R ⟨h, g, d, t, os⟩ := by
  have f1 := tc_lookup
  have f2 := tc_bind (.ref C)
  have ty : (⟨h, g, d, t, os⟩ : Shared).TypeIs (.ref C) "type" := ⟨_, cl, rfl⟩
  refine codeAny_of_tree ?_
  show wpAny _ _ (callAny (.ref C) _) _ _ _
  repeat (any_goals (first | assumption | with_reducible refine wpAny_loadPart_at cl ?_ | wp_step))
  refine ⟨rfl, ?_⟩
  refine codeAny_call_builtin_at (Code.quiet_builtin _ (by decide +kernel)) entry_typeCall (wpAny_check_type_call_sub cl (kw_type F hT cl hi hb len ?_))
  refine codeAny_mono z fun r s' y => ?_
  rcases r with e | (v | _ | _ | _) <;> exact y
end
end Xg
end PySem

/-! Own exception classes over any built-in base, made as values: by position, by name; their fields stored and read; isinstance. -/
namespace PySem
namespace Xg
open PySem.W PySem.Calls PyProof.Rows Builtin Builtin.ObjectAttr
section
variable {prog : Program} {w : World} {A : Around} {R : Result → Shared → Prop} {hp : Heap} {g : Array GenState} {d : Drawn} {t : Nat} {os : OsState} {K : Frag} {B : String} {bmB : List Value}
/-- the first field: the dict is made -/
theorem osa_first (SF : StoreFacts B bmB "object.__setattr__" "object") {name : Str} {tk : Tok} {v : Value} {x C t1 : Addr} (kin : K.In hp)
    (at_ : hp.get? x = some (PX.excO C t1)) (ov : excOver K C bmB = true) (no : takerIn K C name = some none) (hh : hasDictIn K C = true)
    (z : ∀ h' tk' dx, (∀ b o, b ≠ x → hp.get? b = some o → h'.get? b = some o) → hp.objs.size ≤ dx → dx ≠ x →
      h'.get? x = some { PX.excO C t1 with dict := some dx } → h'.Ns1 dx (fun y => if y = name then some v else none) → R (.ok (.ret .none)) ⟨h', g, d, tk', os⟩) :
    codeAny (model prog w) A (.call (.builtin "object.__setattr__") ⟨[.ref x, .str name tk, v], []⟩) R ⟨hp, g, d, t, os⟩ := by
  obtain ⟨cd, hc, hd'⟩ := any_some hh
  have lt := Heap.lt_size at_
  refine osa_openX (od := none) (s := ⟨hp, g, d, t, os⟩) SF kin ⟨at_, rfl, rfl, trivial⟩ ov no fun b => ?_
  refine wpAny_bind (wpAny_pure (wpAny_bind (instanceDict_exc (s := ⟨hp, g, d, t, os⟩) (c2 := .none) at_ (looks_clsIn kin hc) hd' ?_)))
  show wpAny _ _ (storeInDict hp.objs.size (.str name tk) name v) _ _ _
  refine HandSPX.store_in_new ?_ fun h' tk' hn hs => ?_
  · exact ⟨_, #[], _, (Heap.get?_update_ne _ _ _ _ (Nat.ne_of_gt lt)).trans (Heap.get?_push_at rfl rfl), rfl, fun e he => absurd he (by simp), fun _ => rfl⟩
  · refine z h' tk' hp.objs.size (fun b o nb e => ?_) (Nat.le_refl _) (Nat.ne_of_gt lt) ?_ hn
    · rw [hs.2 b (Nat.ne_of_lt (Heap.lt_size e)), Heap.get?_update_ne _ _ _ _ nb]
      exact Heap.get?_push_of_some _ e
    · rw [hs.2 x (Nat.ne_of_lt lt)]
      exact Heap.get?_update_self _ (Heap.get?_push_of_some _ at_) rfl
/-- a further field -/
theorem osa_next (SF : StoreFacts B bmB "object.__setattr__" "object") {name : Str} {tk : Tok} {v : Value} {x C t1 dx : Addr} {m0 : Str → Option Value} {nl : List Str} (kin : K.In hp)
    (at_ : hp.get? x = some { PX.excO C t1 with dict := some dx }) (ns : hp.Ns1 dx m0) (wi : Within m0 nl) (few : nl.length ≤ 1000)
    (ov : excOver K C bmB = true) (no : takerIn K C name = some none) (hh : hasDictIn K C = true)
    (z : ∀ h' tk', (∀ b o, b ≠ dx → hp.get? b = some o → h'.get? b = some o) → h'.Ns1 dx (fun y => if y = name then some v else m0 y) → R (.ok (.ret .none)) ⟨h', g, d, tk', os⟩) :
    codeAny (model prog w) A (.call (.builtin "object.__setattr__") ⟨[.ref x, .str name tk, v], []⟩) R ⟨hp, g, d, t, os⟩ := by
  obtain ⟨cd, hc, hd'⟩ := any_some hh
  obtain ⟨oD, _, _, gD, _, _⟩ := ns.count wi
  refine osa_openX (od := some oD) (s := ⟨hp, g, d, t, os⟩) SF kin ⟨at_, rfl, rfl, gD⟩ ov no fun b => ?_
  refine wpAny_bind (wpAny_pure (wpAny_bind (wpAny_bind (wpAny_loadPart at_ (wpAny_bind ((looks_clsIn kin hc).here ?_))))))
  rw [hd']
  refine wpAny_pure (a := some dx) ?_
  exact OEX.store_in_old ns wi few fun h' tk' hn hs => z h' tk' (fun b o nb e => (hs.2 b nb).trans e) hn
end
end Xg
end PySem

namespace Xl
open PySem PySem.Spec PyProof.Rows L2 Gy
/-- what the written part says of an own exception class at C -/
structure XCl (K : PySem.W.Frag) (C : Addr) : Prop where
  base : ∃ B newId initId bmB, ExcBaseFacts B newId initId bmB ∧ StoreFacts B bmB "object.__setattr__" "object" ∧ PySem.W.excInitIn K C bmB newId = true ∧ PySem.W.excOver K C bmB = true
  sa : PySem.W.findIn K (.ref C) "__setattr__" = some (some (.builtin "object.__setattr__"))
  ga : PySem.W.findIn K (.ref C) "__getattribute__" = some (some (.builtin "BaseException.__getattribute__"))
  gg : PySem.W.findIn K (.ref C) "__getattr__" = some none
  ca : PySem.W.findIn K (.ref C) "__class__" = some (some (.builtin "object.__class__"))
  ex : PySem.W.subIn K (.ref C) (.type "BaseException") = some true
  ob : PySem.W.mroIn K C (.type "object") = some true
  hd : PySem.W.hasDictIn K C = true
  kp : PySem.W.keepIn K (.ref C) = true
/-- its __init__ stands at fI -/
structure XIn (K : PySem.W.Frag) (C fI : Addr) : Prop extends XCl K C where
  ini : PySem.W.findIn K (.ref C) "__init__" = some (some (.ref fI))
  tf : PySem.W.typeIn K (.ref fI) = some (.type "function")
section
variable {X : Cx} {pins : List (Addr × Obj)} {σ : L2.St} {H : Hp} {s : Shared} {a C dx : Addr} {f : Str} {y : V} {u : Value} {fs : List (Str × V)} {Q : Unit → Shared → Prop} {E : Value → Shared → Prop} {A : Around}
theorem set_new (T : XCl X.K C) (I : Inv X pins σ H s) (e : H a = some (exo a C none)) (no : PySem.W.findIn X.K (.ref C) f = some none) (ry : RelV y u)
    (z : ∀ dx s', H dx = none → dx ≠ a → Inv X pins σ (upd (upd H dx (exd dx [(f, y)])) a (exo a C (some dx))) s' → Q () s') :
    wpAny (model X.prog X.w) A (setAttr (.ref a) f u) Q E s := by
  obtain ⟨B, nI, iI, bmB, _, SF, _, ov⟩ := T.base
  obtain ⟨t1, at_⟩ := exo_at I.hok e
  obtain ⟨hp, g, d, t, os⟩ := s
  have tk : PySem.W.takerIn X.K C f = some none := by
    unfold PySem.W.takerIn
    rw [no]
    rfl
  refine PySem.W.set_plain I.kIn (od := none) ⟨at_, rfl, rfl, trivial⟩ T.sa ?_
  refine PySem.Xg.osa_first SF I.kIn at_ ov tk T.hd ?_
  intro h' tk' dx keep big ne atX ns
  have free : H dx = none := I.hok.fresh big
  have old : ∀ {b o}, hp.get? b = some o → b ≠ dx := fun q => Nat.ne_of_lt (Nat.lt_of_lt_of_le (Heap.lt_size q) big)
  have noA : ∀ {b}, H b = none → b ≠ a := fun {b} n y => by
    rw [y, e] at n
    cases n
  have other : ∀ {b o}, H b = some o → o ≠ exo a C none → upd (upd H dx (exd dx [(f, y)])) a (exo a C (some dx)) b = some o := by
    intro b o q ne'
    have nb : b ≠ a := fun y => by
      rw [y, e] at q
      exact ne' (Option.some.inj q).symm
    rw [upd_ne nb, upd_ne (ne_of_none q free)]
    exact q
  have U : Un X.fs [] H (upd (upd H dx (exd dx [(f, y)])) a (exo a C (some dx))) hp h' := by
    refine ⟨fun b o q n _ _ => keep b o (noA n) q, fun b o q n _ _ => ⟨o.slots, keep b o (noA n) q⟩, fun b o q n _ => ?_, fun b o q _ => ?_, fun b xs q => ?_, fun b o v q => ?_, fun b ps q => ⟨#[], ?_⟩⟩
    · rw [upd_ne (noA n), upd_ne (old q)]
      exact n
    · by_cases nb : b = a
      · exact ⟨_, by rw [nb]; exact atX⟩
      · exact ⟨o, keep b o nb q⟩
    · exact other q (fun y => exo_tup y.symm)
    · exact other q (fun y => exo_frz y.symm)
    · rw [other q (fun y => exo_tbl y.symm)]
      simp
  refine z dx _ free ne (I.un (t' := tk') U ?_)
  intro b o q
  by_cases nb : b = a
  · subst nb
    rw [upd_same] at q
    cases q
    exact exo_ok atX
  · rw [upd_ne nb] at q
    by_cases nd : b = dx
    · subst nd
      rw [upd_same] at q
      cases q
      exact exd_ok ns (relO_put (fs := []) ry fun _ => True.intro)
    · rw [upd_ne nd] at q
      refine (I.hok b o q).stay (fun c v hc y => keep c v ?_ y) (fun c hc => other hc (fun y => exo_own y.symm)) (fun c xs hc => other hc (fun y => exo_tup y.symm))
      rcases hc with hc | hc
      · rw [hc]
        exact nb
      · exact at_ne e hc exo_own
theorem set_more (T : XCl X.K C) (I : Inv X pins σ H s) (e : H a = some (exo a C (some dx))) (ed : H dx = some (exd dx fs)) (few : fs.length ≤ 900) (no : PySem.W.findIn X.K (.ref C) f = some none) (ry : RelV y u)
    (z : ∀ s', Inv X pins σ (upd H dx (exd dx ((f, y) :: fs))) s' → Q () s') : wpAny (model X.prog X.w) A (setAttr (.ref a) f u) Q E s := by
  obtain ⟨B, nI, iI, bmB, _, SF, _, ov⟩ := T.base
  obtain ⟨t1, at_⟩ := exo_at I.hok e
  obtain ⟨mA, ns, rel⟩ := exd_at I.hok ed
  have wi := within_of rel
  obtain ⟨hp, g, d, t, os⟩ := s
  obtain ⟨oD, _, _, gD, _, _⟩ := ns.count wi
  have tk : PySem.W.takerIn X.K C f = some none := by
    unfold PySem.W.takerIn
    rw [no]
    rfl
  refine PySem.W.set_plain I.kIn (od := some oD) ⟨at_, rfl, rfl, gD⟩ T.sa ?_
  refine PySem.Xg.osa_next SF I.kIn at_ ns wi (by rw [List.length_map]; omega) ov tk T.hd ?_
  intro h' tk' keep hn
  have there : ∃ o, h'.get? dx = some o := by
    obtain ⟨o, _, _, q, _⟩ := hn
    exact ⟨o, q⟩
  exact z _ (I.write (t' := tk') (x := dx) (e := dx) (o := exd dx ((f, y) :: fs)) (by rw [ed]; trivial) (.inl rfl) keep there (exd_ok hn (relO_put ry rel)))
end
/-! ### readings and rules -/
/-- self.f = e in such an __init__ -/
def tXs (K : PySem.W.Frag) (f : Str) (to te : TE) : TS := fun D σ H => te σ H fun y H1 => to σ H1 fun x H2 => ∃ a C : Addr, x = .ref a ∧ XCl K C ∧ PySem.W.findIn K (.ref C) f = some none ∧
  ((H2 a = some (exo a C none) ∧ ∀ dx, H2 dx = none → dx ≠ a → D.nx σ (upd (upd H2 dx (exd dx [(f, y)])) a (exo a C (some dx)))) ∨
    ∃ (dx : Addr) (fs : List (Str × V)), H2 a = some (exo a C (some dx)) ∧ H2 dx = some (exd dx fs) ∧ fs.length ≤ 900 ∧ D.nx σ (upd H2 dx (exd dx ((f, y) :: fs))))
/-- C(..): the object made, then __init__ -/
def tXm (C : Addr) (sp : Sp) (gV : List V → List V → List V) (t tk : TA) : TE := fun σ H Q => t σ H fun vs H0 => tk σ H0 fun zs H1 => vs.length ≤ 1000 ∧ ∀ a, H1 a = none →
  sp (.ref a :: gV vs zs) (upd H1 a (exo a C none)) (fun v H2 => v = .non ∧ Q (.ref a) H2) (fun _ _ _ => False)
section
variable {X : Cx} {o e : Expr} {es : List Expr} {kws : List Keyword} {to te : TE} {t tk : TA} {f : Str} {p p' pos : Pos}
theorem ps_xs (ho : PE X o to) (he : PE X e te) (hs : swapsWith e (some (.Attribute o f p')) pos.line X.env = pure false := by rfl) : PS X (.Assign [.Attribute o f p'] e pos) (tXs X.K f to te) := by
  constructor
  intro pins s σ H D I h
  refine plainObj_wpAny_Assign_Attribute (thn (he.run pins s σ H _ I h) ?_) hs
  rintro v s1 ⟨y, H1, I1, r1, q1⟩
  refine thn (ho.run pins s1 σ H1 _ I1 q1) ?_
  rintro u s2 ⟨x, H2, I2, r2, a, C, rfl, T, no, q⟩
  cases r2
  rcases q with ⟨ea, q⟩ | ⟨dx, fs, ea, ed, few, q⟩
  · exact set_new T I2 ea no r1 fun dx s' n ne J => ⟨σ, _, J, q dx n ne⟩
  · exact set_more T I2 ea ed few no r1 fun s' J => ⟨σ, _, J, q⟩
/-- how positional values and keywords come to __init__'s parameters -/
structure XB (K : PySem.W.Frag) (fd : FuncData) (ps ks : List Str) (g : List Value → List Value → List Value) (gV : List V → List V → List V) : Prop where
  to : ∀ (s : Shared) (b : Value) (us ws : List Value), K.In s.heap → (b :: g us ws).length = ps.length → BindsTo s fd ⟨b :: us, ks.zip ws⟩ (ps.zip (b :: g us ws))
  rel : ∀ {vs : List V} {us : List Value} {zs : List V} {ws : List Value}, Vals vs us → Vals zs ws → Vals (gV vs zs) (g us ws)
variable {CX : CXT} {C fI : Addr} {k : Nat} {fd : FuncData} {ps ks : List Str} {sp : Sp} {g : List Value → List Value → List Value} {gV : List V → List V → List V} {x : Str}
theorem run_x {pins : List (Addr × Obj)} {σ : L2.St} {H : Hp} {s : Shared} {Q : VK} {us ws : List Value} {vs zs : List V} (T : XIn X.K C fI) (F : FnOk X.prog X.w X.K X.mg X.base CX k fI fd ps sp) (hr : Room (k + 1) X.A)
    (hb : XB X.K fd ps ks g gV) (hx : Passes CX X (fun _ _ _ => False)) (I : Inv X pins σ H s) (r : Vals vs us) (rz : Vals zs ws) (len : vs.length ≤ 1000)
    (h : ∀ a, H a = none → sp (.ref a :: gV vs zs) (upd H a (exo a C none)) (fun v H2 => v = .non ∧ Q (.ref a) H2) (fun _ _ _ => False)) :
    wpAny (model X.prog X.w) X.A (call (.ref C) us (ks.zip ws)) (EP X pins σ Q) X.xe s := by
  obtain ⟨B, nI, iI, bmB, BF, _, ii, _⟩ := T.base
  obtain ⟨nm, N', qn, bs, bm, hdct, sn, sub, ab, col, dd, k0, k1, k2, k3, k5, cl, hT⟩ := PySem.W.excInit_of I.kIn ii
  obtain ⟨hp, g', dr, tk', os⟩ := s
  have big : hp.objs.size ≤ hp.objs.size + 1 := Nat.le_succ _
  have hq := h (hp.objs.size + 1) (I.hok.fresh big)
  have keep : ∀ b o, hp.get? b = some o → ((hp.push (PySem.W.kdv_tup us)).push (PySem.PX.excO C hp.objs.size)).get? b = some o := fun b o e =>
    Heap.get?_push_of_some _ (Heap.get?_push_of_some _ e)
  have new : ((hp.push (PySem.W.kdv_tup us)).push (PySem.PX.excO C hp.objs.size)).get? (hp.objs.size + 1) = some (PySem.PX.excO C hp.objs.size) := by heap_get
  have I2 := I.laid (t' := tk') (a := hp.objs.size + 1) (o := exo (hp.objs.size + 1) C none) keep big (exo_ok new)
  have r2 : Vals (V.ref (hp.objs.size + 1) :: gV vs zs) (Value.ref (hp.objs.size + 1) :: g us ws) := .cons rfl (hb.rel r rz)
  have bl := hb.to ⟨_, g', dr, tk', os⟩ (Value.ref (hp.objs.size + 1)) us ws I2.kIn (by rw [← r2.length]; exact F.len _ _ _ _ hq)
  refine wpAny_call (PySem.Xg.kw_call BF hT cl (PySem.W.looks_findIn I.kIn T.ini) (fun self => PySem.W.bind_fn I.kIn self T.tf) ?_ (codeAny_mono (F.run _ X.stack _ _ _ _ _ _ _ (hr.make C us (ks.zip ws)) (I2.env0.make C us (ks.zip ws)) bl r2 hq) ?_))
  · rw [← r.length, sizeLine_eq]
    omega
  · rintro (er | (_ | _ | _ | u)) s' z
    · exact hx pins σ _ _ er s' I2 z
    · exact z.elim
    · exact z.elim
    · exact z.elim
    · obtain ⟨v, H', I3, rv, ev, q3⟩ := I2.after z
      subst ev
      exact ⟨rv, V.ref (hp.objs.size + 1), H', I3, rfl, q3⟩
theorem pe_xm (T : XIn X.K C fI) (F : FnOk X.prog X.w X.K X.mg X.base CX k fI fd ps sp) (hr : Room (k + 1) X.A) (hg : Gl X x) (hm : X.mg x = some (.ref C)) (hb : XB X.K fd ps [] g gV) (hx : Passes CX X (fun _ _ _ => False))
    (ha : PA X (e :: es) t) (hdb : (x == ("__debug__" : Str)) = false := by decide) (he : starEach (e :: es) X.env = (false, eval e X.env) :: starEach es X.env := by rfl)
    (hpl : (backTo pos (starEach es X.env)).any (·.1) = false := by rfl) : PE X (.Call (.Name x p) (e :: es) [] pos) (tXm C sp gV t tNil) := by
  constructor
  intro pins s σ H Q I h
  refine wpAny_Call_Name_kw (ld_glob I hg hm ?_ hdb)
  refine PySem.W.callWith_K (h₀ := X.base) I.ok.mod.kin T.kp (thn (ha.run pos pins s σ H _ I h) ?_) he hpl
  rintro us s1 ⟨vs, H1, I1, r, q⟩
  obtain ⟨len, q⟩ := q
  exact ⟨I1.kIn, run_x (ks := []) (ws := []) T F hr hb hx I1 r .nil len q⟩
theorem pe_xm0 (T : XIn X.K C fI) (F : FnOk X.prog X.w X.K X.mg X.base CX k fI fd ps sp) (hr : Room (k + 1) X.A) (hg : Gl X x) (hm : X.mg x = some (.ref C)) (hb : XB X.K fd ps [] g gV) (hx : Passes CX X (fun _ _ _ => False))
    (hdb : (x == ("__debug__" : Str)) = false := by decide) : PE X (.Call (.Name x p) [] [] pos) (tXm C sp gV tNil tNil) := by
  constructor
  intro pins s σ H Q I h
  obtain ⟨len, q⟩ := h
  refine wpAny_Call_Name_kw (ld_glob I hg hm ?_ hdb)
  exact PySem.W.callWith_K0 I.kIn T.kp (run_x (us := []) (ks := []) (ws := []) T F hr hb hx I .nil .nil len q)
theorem pe_xk (T : XIn X.K C fI) (F : FnOk X.prog X.w X.K X.mg X.base CX k fI fd ps sp) (hr : Room (k + 1) X.A) (hg : Gl X x) (hm : X.mg x = some (.ref C)) (hb : XB X.K fd ps ks g gV) (hx : Passes CX X (fun _ _ _ => False))
    (hkw : PK X kws tk) (hall : (backToKw pos (keywordEach kws X.env)).all (·.1.isSome) = true := by rfl) (hks : (backToKw pos (keywordEach kws X.env)).filterMap (·.1) = ks := by rfl)
    (hdb : (x == ("__debug__" : Str)) = false := by decide)
    (hpl : ((backTo pos (starEach [] X.env)).any (·.1) || (backToKw pos (keywordEach kws X.env)).any (·.1.isNone)) = false := by rfl) :
    PE X (.Call (.Name x p) [] kws pos) (tXm C sp gV tNil tk) := by
  constructor
  intro pins s σ H Q I h
  refine wpAny_Call_Name_kw (ld_glob I hg hm ?_ hdb)
  refine PySem.W.callWith_KW0 (h₀ := X.base) I.ok.mod.kin T.kp hall (thn (hkw.run pos pins s σ H _ I h) ?_) hpl
  rintro ws s2 ⟨zs, H2, I2, rz, len, q2⟩
  rw [hks]
  exact ⟨I2.kIn, run_x (us := []) T F hr hb hx I2 .nil rz len q2⟩
/-- an exception of the class C stands at a, its fields fs -/
def XAt (K : PySem.W.Frag) (H : Hp) (a C : Addr) (fs : List (Str × V)) : Prop := XCl K C ∧ ((fs = [] ∧ H a = some (exo a C none)) ∨ ∃ d, H a = some (exo a C (some d)) ∧ H d = some (exd d fs))
/-- e.f -/
def tXf1 (K : PySem.W.Frag) (f : Str) (te : TE) : TE := fun σ H Q => te σ H fun x H1 => ∃ (a C : Addr) (fs : List (Str × V)) (v : V), x = .ref a ∧ XAt K H1 a C fs ∧ PySem.W.findIn K (.ref C) f = some none ∧ fs.lookup f = some v ∧ Q v H1
theorem pe_xf1 {n : Str} (he : PE X e te) (hb : attributeBase e n X.env (eval e X.env) = eval e X.env := by rfl) : PE X (.Attribute e n pos) (tXf1 X.K n te) := by
  constructor
  intro pins s σ H Q I h
  refine attr_of hb (thn (he.run pins s σ H _ I h) ?_)
  rintro u s1 ⟨x, H1, I1, rx, a, C, fs, v, rfl, ⟨T, at_⟩, no, l, q⟩
  cases rx
  rcases at_ with ⟨rfl, _⟩ | ⟨d, ea, ed⟩
  · cases l
  · obtain ⟨t1, ga⟩ := exo_at I1.hok ea
    obtain ⟨mA, ns, rel⟩ := exd_at I1.hok ed
    obtain ⟨od, go, hl⟩ := lookIn_ns ns
    obtain ⟨u, hu, ru⟩ := RelO.some_of (v := v) (o := mA n) (by rw [← l]; exact rel n)
    exact PySem.PX.exc_get I1.kIn (od := some od) ⟨ga, rfl, rfl, go⟩ T.ga T.gg T.ex (PySem.W.findObj_own T.hd no rfl (by rw [hl, hu])) (handed_of ru) ⟨v, H1, I1.tok _, ru, q⟩
/-- isinstance(e, c) -/
def rIsX (K : PySem.W.Frag) : List V → Hp → VK → Prop := fun xs H Q => ∃ (a C : Addr) (fs : List (Str × V)) (c : V) (cv : Value) (b : Bool), xs = [.ref a, c] ∧ XAt K H a C fs ∧ ClsV c cv ∧ PySem.W.kitOne K (.ref C) cv = some b ∧ Q (.bl b) H
theorem call_isX (cg : PySem.W.specialIn X.K (.builtin "object.__class__") "__get__" = some (some (.builtin "getset_descriptor.__get__"))) (ct : PySem.W.takesIn X.K (.builtin "object.__class__") = some true) :
    CallR X (.builtin "isinstance") (rIsX X.K) := by
  intro pins s σ H xs us Q I r h
  obtain ⟨a, C, fs, c, cv, b, rfl, ⟨T, at_⟩, hc, e, q⟩ := h
  obtain ⟨u1, u2, rfl, r1, r2⟩ := vals2 r
  cases r1
  have e2 := hc.eq r2
  subst e2
  have cls : (PySem.W.clsIn X.K C).isSome = true := by
    obtain ⟨cd, z, _⟩ := PySem.W.any_some T.hd
    rw [z]
    rfl
  have inst : ∃ ox od, PySem.W.InstAt s.heap a ox C od := by
    rcases at_ with ⟨_, ea⟩ | ⟨d, ea, ed⟩
    · obtain ⟨t1, ga⟩ := exo_at I.hok ea
      exact ⟨_, none, ga, rfl, rfl, trivial⟩
    · obtain ⟨t1, ga⟩ := exo_at I.hok ea
      obtain ⟨mA, ns, rel⟩ := exd_at I.hok ed
      obtain ⟨od, go, hl⟩ := lookIn_ns ns
      exact ⟨_, some od, ga, rfl, rfl, go⟩
  obtain ⟨ox, od, J⟩ := inst
  exact PySem.W.kia_one (PySem.W.kitx_exc cls T.ga T.gg T.ex T.ca cg ct T.ob) I.kIn J e (fun z => nomatch z) fun tk => ⟨.bl b, H, I.tok tk, rfl, q⟩
/-- C(e, ..) of a class without an __init__ of its own -/
def tXb (C : Addr) (t : TA) : TE := fun σ H Q => t σ H fun vs H1 => vs.length ≤ 1000 ∧ ∀ a, H1 a = none → Q (.ref a) (upd H1 a (exo a C none))
theorem pe_xb (T : XCl X.K C) (hi : ∃ B newId initId bmB, ExcBaseFacts B newId initId bmB ∧ PySem.W.excInitIn X.K C bmB newId = true ∧ PySem.W.findIn X.K (.ref C) "__init__" = some (some (.builtin initId)))
    (hg : Gl X x) (hm : X.mg x = some (.ref C)) (ha : PA X (e :: es) t) (hdb : (x == ("__debug__" : Str)) = false := by decide)
    (he : starEach (e :: es) X.env = (false, eval e X.env) :: starEach es X.env := by rfl) (hpl : (backTo pos (starEach es X.env)).any (·.1) = false := by rfl) :
    PE X (.Call (.Name x p) (e :: es) [] pos) (tXb C t) := by
  constructor
  intro pins s σ H Q I h
  obtain ⟨B, nI, iI, bmB, BF, ii, fi⟩ := hi
  refine wpAny_Call_Name_kw (ld_glob I hg hm ?_ hdb)
  refine PySem.W.callWith_K (h₀ := X.base) I.ok.mod.kin T.kp (thn (ha.run pos pins s σ H _ I h) ?_) he hpl
  rintro us s1 ⟨vs, H1, I1, r, len, q⟩
  refine ⟨I1.kIn, ?_⟩
  obtain ⟨nm, N', qn, bs, bm, hdct, sn, sub, ab, col, dd, k0, k1, k2, k3, k5, cl, hT⟩ := PySem.W.excInit_of I1.kIn ii
  have lk := PySem.W.looks_findIn (M := model X.prog X.w) I1.kIn fi
  obtain ⟨hp, g', dr, tk', os⟩ := s1
  show wpAny _ _ (call (.ref C) us) _ _ _
  refine PySem.W.call_B BF hT cl lk (by rw [← r.length, sizeLine_eq]; omega) fun h' keep new _ => ?_
  exact ⟨V.ref (hp.objs.size + 1), _, I1.laid (t' := tk') keep (Nat.le_succ _) (exo_ok new), rfl, q _ (I1.hok.fresh (Nat.le_succ _))⟩
end
end Xl

namespace Gy
open PySem PySem.Spec PyProof.Rows L2
/-- data, or a dict without entries, or one whose only key is the text k and whose value is an int -/
inductive Dz (K : PySem.W.Frag) (H : Hp) : V → PyData → Prop
  | dat {v : V} {d : PyData} (h : Dp K H v d) (n : d.hasDict = false) : Dz K H v d
  | d0 {a : Addr} (h : H a = some (.dK [])) : Dz K H (.ref a) (.dict [])
  | d1 {a : Addr} {k : Str} {i : Int} (h : H a = some (.dK [(Sum.inr k, .int i)])) : Dz K H (.ref a) (.dict [(.str k, .int i)])
theorem Dz.reads {X : Cx} {pins : List (Addr × Obj)} {σ : L2.St} {H : Hp} {s : Shared} (I : Inv X pins σ H s) {v : V} {d : PyData} {u : Value} (h : Dz X.K H v d) (r : RelV v u) :
    ∃ as, Reads s.heap u d as ∧ (d.hasDict = true → sysModules ∉ as) := by
  cases h with
  | dat h n =>
    obtain ⟨as, z⟩ := Dp.reads I d v u h r
    exact ⟨as, z, fun q => by rw [n] at q; cases q⟩
  | @d0 a h =>
    cases r
    obtain ⟨_, ns, vs, kv, o, es, ep, g1, ex, g2, ks, ps, _⟩ := (show ObjOk X.prog X.w H s.heap a (.dK []) from I.hok a _ h)
    cases kv
    have e : es.toList = [] := by
      generalize es.toList = l at ps
      cases ps
      rfl
    refine ⟨_, .dict g1 ex.1 g2 (as := []) (bs := []) (by rw [e]; exact .nil) (by rw [e]; exact .nil), fun _ q => ?_⟩
    rw [List.append_nil, List.mem_singleton] at q
    rw [← q] at ns
    cases ns
  | @d1 a k i h =>
    cases r
    obtain ⟨_, ns, vs, kv, o, es, ep, g1, ex, g2, ks, ps, _⟩ := (show ObjOk X.prog X.w H s.heap a (.dK [(Sum.inr k, .int i)]) from I.hok a _ h)
    obtain ⟨t1, t2, e1, e2⟩ : ∃ t1 t2, es.toList.map (·.key) = [.str k t1] ∧ es.toList.map (·.val) = [.int i t2] := by
      generalize es.toList = l at ps
      cases kv with
      | cons hk hr =>
        cases hr
        obtain ⟨h1, h2⟩ := hk
        cases ps with
        | cons p1 p2 p3 =>
          cases p3
          rw [← h1] at p1
          rcases keyIs_shape (show keyIs (Sum.inr k) _ = true from p1) with ⟨j, t, q, _⟩ | ⟨x, t, q, q2⟩
          · cases q
          · cases q
            obtain ⟨t2, h2⟩ := h2
            refine ⟨t, t2, ?_, ?_⟩
            · rw [List.map_singleton, q2]
            · rw [List.map_singleton, p2, h2]
    refine ⟨_, .dict g1 ex.1 g2 (as := [] ++ []) (bs := [] ++ []) (by rw [e1]; exact .cons (.str k t1) .nil) (by rw [e2]; exact .cons (.int i t2) .nil), fun _ q => ?_⟩
    have q' : sysModules ∈ [a] := q
    rw [List.mem_singleton] at q'
    rw [← q'] at ns
    cases ns
/-- each of them shown -/
theorem shows_all {X : Cx} {pins : List (Addr × Obj)} {σ : L2.St} {H : Hp} {s : Shared} (I : Inv X pins σ H s) : ∀ {vs : List V} {ds : List PyData} {us : List Value}, Paired (Dz X.K H) vs ds → Vals vs us →
    PyData.showableAll ds = true → (∀ t ∈ PyData.shownAll ds, t.length ≤ sizeLine) →
    ∃ as bs, ReadsAll s.heap us ds as ∧ ReadAtMost s.heap (PyData.depthAll ds) bs ∧ ReprAllK X.prog X.w bs s.heap (PyData.depthAll ds) us (PyData.shownAll ds)
  | _, _, _, .nil, .nil, _, _ => ⟨[], [], .nil, (fun _ h => nomatch h), .nil⟩
  | _, _, _, .cons (b := d) (l₂ := ds) h hs, .cons r rs, sh, len => by
    have sh2 : d.showable = true ∧ PyData.showableAll ds = true := by simpa only [PyData.showableAll, Bool.and_eq_true] using sh
    obtain ⟨as, rd, no⟩ := h.reads I r
    obtain ⟨b1, m1, k1⟩ := ReprK.of_reads (prog := X.prog) (w := X.w) rd sh2.1 no (len _ List.mem_cons_self)
    obtain ⟨as2, b2, rd2, m2, k2⟩ := shows_all I hs rs sh2.2 fun t ht => len t (List.mem_cons_of_mem _ ht)
    have l1 : d.depth ≤ PyData.depthAll (d :: ds) := Nat.le_max_left _ _
    have l2 : PyData.depthAll ds ≤ PyData.depthAll (d :: ds) := Nat.le_max_right _ _
    refine ⟨as ++ as2, b1 ++ b2, .cons rd rd2, (m1.mono l1).append (m2.mono l2), ?_⟩
    exact .cons ((k1.more fun b hb => List.mem_append_left _ hb).level_le l1) (k2.more_le (fun b hb => List.mem_append_right _ hb) l2)
/-- repr of a list of such values -/
def rRepr (K : PySem.W.Frag) : List V → Hp → VK → Prop := fun xs H Q => ∃ l vs ds, xs = [.ref l] ∧ SqL K H l vs ∧ vs ≠ [] ∧ Paired (Dz K H) vs ds ∧ PyData.showableAll ds = true ∧ PyData.depthAll ds ≤ 60 ∧
  (listText (PyData.shownAll ds)).length ≤ sizeLine ∧ Q (.str (listText (PyData.shownAll ds))) H
theorem repr_dz {X : Cx} (hg : X.A.guards = some []) (hu : X.A.units + 70 < cLine) : CallR X (.builtin "repr") (rRepr X.K) := by
  intro pins s σ H xs us Q I r h
  obtain ⟨l, vs, ds, rfl, sq, nn, dz, sh, dp, len, q⟩ := h
  obtain ⟨u, rfl, ru⟩ := vals1 r
  cases ru
  obtain ⟨its, rv, ⟨o, n, g1, g2, _, g3⟩, _⟩ := I.list sq
  obtain ⟨as, bs, rd, at_, sw⟩ := shows_all I dz rv sh fun t ht => Nat.le_trans (listText_mem_le ht) len
  have out : l ∉ bs := not_mem_of_deeper (.list g1 g2 g3 rd) (by simp only [PyData.depth]; omega) at_
  match its, nn, rv, g3, rd, sw with
  | [], nn, rv, _, _, _ =>
    cases rv
    exact absurd rfl nn
  | x :: rest, _, _, g3, _, sw =>
    refine call_repr_slot (T := "list") (idr := "list.__repr__") (by omega) ⟨o, g1, g2⟩ F.slot_list_repr.toG ?_
    refine call_list_reprK g1 g2 g3 out (by simpa using sw.length_eq) (fun i y e => sw.item i y (by simpa using e)) (g := []) hg (fun b _ => Clear.nil b) (d := PyData.depthAll ds) ?_ (fun _ _ e => e) (fun h' u tk hk => ?_) len
    · show X.A.units + 1 + (PyData.depthAll ds + 1) < cLine
      omega
    · exact ⟨_, _, rfl, .str _, H, I.kept hk, ⟨u, rfl⟩, q⟩
end Gy

/-! Own exceptions over any base raised and caught: one field; several clauses with a name. -/
namespace Xl
open PySem PySem.Spec PyProof.Rows L2 Gy
/-- an __init__ of one field f -/
def spI1 (C : Addr) (f : Str) : Sp := fun vs H Q _ => ∃ (a : Addr) (v : V), vs = [.ref a, v] ∧ H a = some (exo a C none) ∧ ∀ dx, H dx = none → dx ≠ a → Q .non (upd (upd H dx (exd dx [(f, v)])) a (exo a C (some dx)))
theorem del_made {H : Hp} {a dx C : Addr} {f : Str} {v : V} (n : H a = none) (ne : dx ≠ a) :
    upd (del (upd (upd (upd H a (exo a C none)) dx (exd dx [(f, v)])) a (exo a C (some dx))) a) dx (.xd [(f, v)]) = upd H dx (.xd [(f, v)]) := by
  funext b
  by_cases h1 : b = dx
  · rw [h1, upd_same, upd_same]
  · rw [upd_ne h1, upd_ne h1]
    by_cases h2 : b = a
    · rw [h2, del_same, n]
    · rw [del_ne h2, upd_ne h2, upd_ne h1, upd_ne h2]
section
variable {X : Cx} {C fI : Addr} {fd : FuncData} {f x : Str} {e : Expr} {te : TE} {p pos : Pos} {CX' : CXT}
/-- C(e), to be raised -/
def tMk1 (C : Addr) (f : Str) (t : TA) : L2.St → Hp → XK → Prop := fun σ H Q => t σ H fun vs H1 => ∃ v, vs = [v] ∧ ∀ d, H1 d = none → Q (.ref C) (some d) (upd H1 d (.xd [(f, v)]))
theorem pmk_x1 {t : TA} (T : XIn X.K C fI) (ty : PySem.W.typeIn X.K (.ref C) = some (.type "type")) (F : FnOk X.prog X.w X.K X.mg X.base CX0 1 fI fd ["self", f] (spI1 C f)) (hr : Room 2 X.A)
    (hb : XB X.K fd ["self", f] [] (fun us _ => us) (fun vs _ => vs)) (hg : Gl X x) (hm : X.mg x = some (.ref C)) (ha : PA X [e] t)
    (hdb : (x == ("__debug__" : Str)) = false := by decide) (hst : starEach [e] X.env = (false, eval e X.env) :: starEach [] X.env := by rfl) :
    PMk X (.Call (.Name x p) [e] [] pos) (tMk1 C f t) := by
  intro pins s σ H Q I h
  refine wpAny_Call_Name_kw (ld_glob I hg hm ?_ hdb)
  refine PySem.W.callWith_K (h₀ := X.base) I.ok.mod.kin T.kp (thn (ha.run pos pins s σ H _ I h) ?_) hst rfl
  rintro us s1 ⟨vs, H1, I1, r1, v, rfl, q1⟩
  refine ⟨I1.kIn, ?_⟩
  show wpAny _ _ (call (.ref C) us) _ _ _
  obtain ⟨B, nI, iI, bmB, BF, _, ii, _⟩ := T.base
  obtain ⟨nm, N', qn, bs, bm, hdct, sn, sub, ab, col, dd, k0, k1, k2, k3, k5, cl, hT⟩ := PySem.W.excInit_of I1.kIn ii
  obtain ⟨hp, g', dr, tk', os⟩ := s1
  have big : hp.objs.size ≤ hp.objs.size + 1 := Nat.le_succ _
  have na : H1 (hp.objs.size + 1) = none := I1.hok.fresh big
  have keep : ∀ b o, hp.get? b = some o → ((hp.push (PySem.W.kdv_tup us)).push (PySem.PX.excO C hp.objs.size)).get? b = some o := fun b o e =>
    Heap.get?_push_of_some _ (Heap.get?_push_of_some _ e)
  have new : ((hp.push (PySem.W.kdv_tup us)).push (PySem.PX.excO C hp.objs.size)).get? (hp.objs.size + 1) = some (PySem.PX.excO C hp.objs.size) := by heap_get
  have I2 := I1.laid (t' := tk') (a := hp.objs.size + 1) (o := exo (hp.objs.size + 1) C none) keep big (exo_ok new)
  have r2 : Vals [V.ref (hp.objs.size + 1), v] (Value.ref (hp.objs.size + 1) :: us) := .cons rfl r1
  have hq : spI1 C f [V.ref (hp.objs.size + 1), v] (upd H1 (hp.objs.size + 1) (exo (hp.objs.size + 1) C none))
      (fun r H2 => r = .non ∧ ∃ dx, dx ≠ hp.objs.size + 1 ∧ upd H1 (hp.objs.size + 1) (exo (hp.objs.size + 1) C none) dx = none ∧
        H2 = upd (upd (upd H1 (hp.objs.size + 1) (exo (hp.objs.size + 1) C none)) dx (exd dx [(f, v)])) (hp.objs.size + 1) (exo (hp.objs.size + 1) C (some dx))) (fun _ _ _ => False) :=
    ⟨_, v, rfl, upd_same, fun dx nd ne => ⟨rfl, dx, ne, nd, rfl⟩⟩
  have bl := hb.to ⟨_, g', dr, tk', os⟩ (Value.ref (hp.objs.size + 1)) us [] I2.kIn (by rw [← r2.length]; rfl)
  refine wpAny_call (PySem.Xg.kw_call BF hT cl (PySem.W.looks_findIn I1.kIn T.ini) (fun self => PySem.W.bind_fn I1.kIn self T.tf) ?_ (codeAny_mono (F.run _ X.stack _ _ _ _ _ _ _ (hr.make C us []) (I2.env0.make C us []) bl r2 hq) ?_))
  · rw [← r1.length, sizeLine_eq]
    show 1 ≤ 16777216
    decide
  · rintro (er | (_ | _ | _ | u)) s' z
    · exact (show False from z).elim
    · exact z.elim
    · exact z.elim
    · exact z.elim
    · obtain ⟨r, H2, os2, bare2, un2, hok2, rv, er, dx, ne, nd, e2⟩ := z
      subst er
      obtain ⟨h2, g2, d2, t2, os'⟩ := s'
      subst e2
      refine ⟨rv, mk_end (raises_own T.ex ty) I1 big keep un2 hok2 os2 bare2 upd_same ((upd_ne ne).trans upd_same) ((upd_ne ne).symm.trans nd) ?_⟩
      rw [del_made na ne]
      exact q1 dx ((upd_ne ne).symm.trans nd)
/-- raise C(e) -/
theorem ps_raise1 {W : WX} {t : TA} {rp : Pos} (hc : X.calm = true) (tk : Takes X W) (T : XIn X.K C fI) (ty : PySem.W.typeIn X.K (.ref C) = some (.type "type")) (F : FnOk X.prog X.w X.K X.mg X.base CX0 1 fI fd ["self", f] (spI1 C f)) (hr : Room 2 X.A)
    (hb : XB X.K fd ["self", f] [] (fun us _ => us) (fun vs _ => vs)) (hg : Gl X x) (hm : X.mg x = some (.ref C)) (ha : PA X [e] t)
    (hdb : (x == ("__debug__" : Str)) = false := by decide) (hst : starEach [e] X.env = (false, eval e X.env) :: starEach [] X.env := by rfl) :
    PS X (.Raise (some (.Call (.Name x p) [e] [] pos)) none rp) (fun _ σ H => tMk1 C f t σ H fun cls d H' => W cls d σ H') :=
  ps_raise hc tk (pmk_x1 T ty F hr hb hg hm ha hdb hst)
end
section
variable {X : Cx}
/-- what several clauses 'except x as n' wish of an exception of the body, one after the other: slot i is n's -/
def wManyAs (K : PySem.W.Frag) (i : Nat) (Wout : WX) (D : Ends) : List (Value × (Addr → Value → Option Addr → TS)) → WX
  | [] => Wout
  | (c, ts) :: r => fun cls d σ H => ∃ b, PySem.W.exmOne K cls c = some b ∧
      (b = true → ∀ a, H a = none → ts a cls d { nx := fun σ' H' => D.nx (σ'.set i none) H', rt := D.rt, bk := fun σ' H' => D.bk (σ'.set i none) H', ct := fun σ' H' => D.ct (σ'.set i none) H' } (σ.set i (some (.ref a))) H) ∧
      (b = false → wManyAs K i Wout D r cls d σ H)
inductive HdsAs (X : Cx) (n : Str) : List ExceptHandler → List (Value × (Addr → Value → Option Addr → TS)) → Prop
  | nil : HdsAs X n [] []
  | cons {x : Str} {c : Value} {ts : Addr → Value → Option Addr → TS} {b₀ : Stmt} {suite : List Stmt} {np pos' : Pos} {hds : List ExceptHandler} {l : List (Value × (Addr → Value → Option Addr → TS))} (hc : Names X x c)
      (hsu : ∀ (a : Addr) (oe : Obj) (cls : Value) (d : Option Addr) (pn : List (Addr × Obj)), Zc cls d oe → (∃ vs, oe.data = .fields vs) → PSs (X.suite a ((a, oe) :: pn)) (b₀ :: suite) (ts a cls d)) (r : HdsAs X n hds l) :
      HdsAs X n (.ExceptHandler (some (.Name x np)) (some n) (b₀ :: suite) pos' :: hds) ((c, ts) :: l)
variable {body : List Stmt} {h₀ : ExceptHandler} {hds : List ExceptHandler} {l : List (Value × (Addr → Value → Option Addr → TS))} {n : Str} {i : Nat} {pos : Pos} {tb : WX → TS} {Wout : WX}
/-- try: body, several clauses 'except x as n' -/
theorem ps_try_manyAs (hs : X.stack = X.env :: X.outer) (hf : X.env.frame = some X.env.locals) (hN : X.N.Nodup) (hi : X.N[i]? = some n) (hln : X.env.kindOf n = some .local) (tk : Takes X Wout)
    (hb : ∀ (W : WX) (pn : List (Addr × Obj)) (xe : Value → Shared → Prop), Takes (X.tr pn xe) W → PassesOwn (model X.prog X.w) X.A X.env xe → PSs (X.tr pn xe) body (tb W))
    (hh : HdsAs X n (h₀ :: hds) l) : PS X (.Try body (h₀ :: hds) [] [] pos) (fun D σ H => tb (wManyAs X.K i Wout D l) D σ H) := by
  constructor
  intro pins s σ H D I h
  have ok := I.ok
  have fr : X.A.frames = some (X.env :: X.outer) := by
    rw [ok.frames, hs]
  refine wpAny_Try_except ?_
  have run := hb (wManyAs X.K i Wout D l) (X.pn ++ pins) (fun e s₁ => wpAny (model X.prog X.w) X.A (noteFrame e X.env) (fun _ s₂ => wpAny (model X.prog X.w) X.A (setFlight e none)
    (fun _ s₃ => wpAny (model X.prog X.w) X.A (handleBy e X.env (h₀ :: hds)) (SP X pins D) X.xe s₃) X.xe s₂) X.xe s₁) ?tk PassesOwn.looking
  case tk =>
    rintro u s' ⟨a, B, sI, pins', σ', H', cls, d, rfl, J', nb, up, sky, na, os, ag, wish⟩
    have J := J'.ofTry ok
    rw [show (X.tr (X.pn ++ pins) _).stack = X.env :: X.outer from hs] at sky
    refine Sky.land Zc.steady fr hf sky fun h3 fl3 up3 => ?_
    have J3 : Inv X pins σ' H' { s' with heap := h3 } := J.landed nb fl3.1 (up.trans up3) os ag
    obtain ⟨oe3, vs3, at3, z3, d3⟩ := fl3.there
    have out : a ∉ frs (X.env :: X.outer) := fun m => by
      obtain ⟨_, o', q', nf⟩ := fl3.2.2.1.mem m
      rw [at3] at q'
      cases q'
      exact nf _ d3
    have nL : a ≠ X.env.locals := fun z => out (List.mem_filterMap.mpr ⟨X.env, List.mem_cons_self, by rw [hf, z]⟩)
    have nF : a ∉ X.fs := fun m => by
      obtain ⟨e', he', q'⟩ := List.mem_filterMap.mp m
      exact out (List.mem_filterMap.mpr ⟨e', List.mem_cons_of_mem _ he', q'⟩)
    have S3 := J3.suite at3 d3 na nL nF
    have go : ∀ {hds' l'}, HdsAs X n hds' l' → wManyAs X.K i Wout D l' cls d σ' H' → wpAny (model X.prog X.w) X.A (handleBy (.ref a) X.env hds') (SP X pins D) X.xe { s' with heap := h3 } := by
      intro hds' l' hk
      induction hk with
      | nil =>
        intro wish
        refine wpAny_handleBy_nil ?_
        obtain ⟨k1, k2, k3, oe, vs, T, oT, ts', he, hz, hd, h1, hr⟩ := id fl3
        unfold PySem.passOn
        refine wpAny_bind (wpAny_field he hd h1 ?_)
        rw [if_neg (show ¬ ((Value.ref T == Value.none) = true) from by simp)]
        have fin : wpAny (model X.prog X.w) X.A (setFlight (.ref a) X.env.frame) (fun _ s4 => wpAny (model X.prog X.w) X.A (throw (.ref a) : Sem Flow) (SP X pins D) X.xe s4) X.xe { s' with heap := h3 } := by
          rw [hf]
          refine HandSPX.setFlight_upZ fl3 fun h4 hh4 up4 => wpAny_throw (tk _ _ ?_)
          refine ⟨a, B, sI, pins, σ', H', cls, d, rfl, J, nb, (up.trans up3).trans up4, .inr (.inr ?_), na, os, ag, wish⟩
          rw [hs]
          exact hh4
        first
          | exact wpAny_bind (wpAny_pure (wpAny_bind fin))
          | exact wpAny_bind fin
      | @cons x c ts b₀ suite np pos' hds2 l2 hc hsu r ih =>
        rintro ⟨b, hb1, yes, no⟩
        refine wpAny_handleBy_cons (codeAny_handlers_test ?_) (by intro q; cases q)
        have ty : PySem.W.Looks (model X.prog X.w) h3 (typeOf (.ref a)) cls := fun A Q E s k q => wpAny_typeOf_ref (k _ _ at3) (by rw [z3.1]; exact q)
        have look := PySem.W.exm_one (M := model X.prog X.w) J3.kIn ty hb1
        have name : ∀ {Q : Value → Shared → Prop} {E : Value → Shared → Prop}, Q c { s' with heap := h3 } → wpAny (model X.prog X.w) (X.A.mark (some (.ref a))) (eval (.Name x np) X.env) Q E { s' with heap := h3 } := by
          intro Q E q
          obtain ⟨hg, hdbg, hm | ⟨hm, hv, hnn⟩⟩ := hc
          · exact ld_glob (X := X.suite a ((a, oe3) :: (X.pn ++ pins))) S3 hg hm q hdbg
          · exact ld_blt (X := X.suite a ((a, oe3) :: (X.pn ++ pins))) S3 hg hm hv q hnn hdbg
        refine name (look.here ?_)
        cases b with
        | false =>
          show wpAny _ X.A (handleBy (.ref a) X.env hds2) _ _ _
          exact ih (no rfl)
        | true =>
          refine codeAny_handlers_suite_as ?_
          refine HandSPX.lands_againZ fl3 fun h4 fl4 up4 => ?_
          have J4 : Inv X pins σ' H' { s' with heap := h4 } := J.landed nb fl4.1 ((up.trans up3).trans up4) os ag
          obtain ⟨oe4, vs4, at4, z4, d4⟩ := fl4.there
          have S4 := J4.suite at4 d4 na nL nF
          refine store_ok (X := X.suite a ((a, oe4) :: (X.pn ++ pins))) (v := .ref a) S4 hN hi (.inl hln) rfl (fun s5 S5 => ?_) (.inr hln)
          refine wpAny_mono ((hsu a oe4 cls d (X.pn ++ pins) z4 ⟨_, d4⟩).run [] s5 _ H' _ S5 (yes rfl a na)) (fun f s6 sp => ?_) (fun _ _ z => False.elim z)
          have leave : ∀ {σ6 : L2.St} {H6 : Hp} {Q : Shared → Prop}, Inv (X.suite a ((a, oe4) :: (X.pn ++ pins))) [] σ6 H6 s6 → (∀ s7, Inv X pins (σ6.set i none) H6 s7 → Q s7) →
              wpAny (model X.prog X.w) X.A (do bindName X.env n .none; unbindBehindTheSuite X.env n pos') (fun _ s7 => Q s7) X.xe s6 := fun S6 hq => gone_ok (S6.unsuite ok) hN hi hln hq
          cases f with
          | ret u =>
            obtain ⟨v6, σ6, H6, S6, r6, q6⟩ := sp
            exact leave S6 fun s7 J7 => ⟨_, _, _, J7, r6, q6⟩
          | _ =>
            obtain ⟨σ6, H6, S6, q6⟩ := sp
            exact leave S6 fun s7 J7 => ⟨_, _, J7, q6⟩
    exact go hh wish
  refine wpAny_mono (run.run [] s σ H D (I.toTry _) h) (fun f s1 sp => ?_) (fun e s1 he => he)
  cases f with
  | next =>
    obtain ⟨σ', H', J', q⟩ := sp
    exact wpAny_execs_nil ⟨σ', H', J'.ofTry ok, q⟩
  | ret u =>
    obtain ⟨v, σ', H', J', r, q⟩ := sp
    exact ⟨v, σ', H', J'.ofTry ok, r, q⟩
  | _ =>
    obtain ⟨σ', H', J', q⟩ := sp
    exact ⟨σ', H', J'.ofTry ok, q⟩
end
end Xl

/-! In an except suite: isinstance of the caught error, whose fields stand in its dict. -/
namespace Xl
open PySem PySem.Spec PyProof.Rows L2 Gy
def rIsS (K : PySem.W.Frag) (a : Addr) (cls : Value) (d : Option Addr) : List V → Hp → VK → Prop := fun xs H Q => ∃ (D dd : Addr) (fs : List (Str × V)) (c : V) (cv : Value) (b : Bool),
  xs = [.ref a, c] ∧ cls = .ref D ∧ d = some dd ∧ H dd = some (.xd fs) ∧ XCl K D ∧ ClsV c cv ∧ PySem.W.kitOne K (.ref D) cv = some b ∧ Q (.bl b) H
theorem call_isS {X : Cx} {a : Addr} {oe : Obj} {cls : Value} {d : Option Addr} {pn : List (Addr × Obj)} (cg : PySem.W.specialIn X.K (.builtin "object.__class__") "__get__" = some (some (.builtin "getset_descriptor.__get__")))
    (ct : PySem.W.takesIn X.K (.builtin "object.__class__") = some true) (hz : Zc cls d oe) (hf : ∃ vs, oe.data = .fields vs) : CallR (X.suite a ((a, oe) :: pn)) (.builtin "isinstance") (rIsS X.K a cls d) := by
  intro pins s σ H xs us Q I r h
  obtain ⟨D, dd, fs, c, cv, b, rfl, rfl, rfl, hd, T, hc, e, q⟩ := h
  obtain ⟨u1, u2, rfl, r1, r2⟩ := vals2 r
  cases r1
  have e2 := hc.eq r2
  subst e2
  obtain ⟨ha, _⟩ := I.pin (a, oe) (List.mem_append_left _ List.mem_cons_self)
  obtain ⟨vs, hv⟩ := hf
  obtain ⟨mA, ns, _⟩ := (show ObjOk X.prog X.w H s.heap dd (.xd fs) from I.hok dd _ hd)
  obtain ⟨od, go, _⟩ := lookIn_ns ns
  have cl : (PySem.W.clsIn X.K D).isSome = true := by
    obtain ⟨cd, z, _⟩ := PySem.W.any_some T.hd
    rw [z]
    rfl
  have J : PySem.W.InstAt s.heap a oe D (some od) := by
    obtain ⟨oc, odd, oda, osl⟩ := oe
    obtain ⟨h1, h2⟩ := hz
    dsimp only at h1 h2 hv
    subst h1 h2 hv
    exact ⟨ha, rfl, rfl, go⟩
  exact PySem.W.kia_one (PySem.W.kitx_exc cl T.ga T.gg T.ex T.ca cg ct T.ob) I.kIn J e (fun z => nomatch z) fun tk => ⟨.bl b, H, I.tok tk, rfl, q⟩
end Xl

/-! Tuples that are made in the run, known to have no dict of their own: so their methods can be called. -/
namespace Xt
open PySem PySem.Spec PyProof.Rows L2
/-- a tuple that was made in the run -/
def Tz (H : Hp) (a : Addr) (xs : List V) : Prop := ∃ o : Obj, H a = some (.frz o (.tup xs)) ∧ o.cls = .type "tuple" ∧ o.dict = none
theorem Tz.sq {K : PySem.W.Frag} {H : Hp} {a : Addr} {xs : List V} (h : Tz H a xs) : SqT K H a xs := by
  obtain ⟨o, e, _⟩ := h
  exact .inl (.inr ⟨o, e⟩)
theorem Tz.same {H H' : Hp} {a : Addr} {xs : List V} (h : Tz H a xs) (s : Same H H') : Tz H' a xs := by
  obtain ⟨o, e, c⟩ := h
  exact ⟨o, s _ _ e, c⟩
theorem Tz.ty {K : PySem.W.Frag} {H : Hp} {a : Addr} {xs : List V} (h : Tz H a xs) : TyX K H (.ref a) (.type "tuple") := by
  obtain ⟨o, e, _⟩ := h
  exact .fTuple e
theorem Tz.ne {H : Hp} {a p : Addr} {xs : List V} (h : Tz H a xs) (n : H p = none) : a ≠ p := by
  obtain ⟨o, e, _⟩ := h
  exact ne_of_none e n
/-- the goal behind a new tuple -/
def NewT (xs : List V) (H : Hp) (Q : VK) : Prop := ∀ p o, H p = none → Same H (upd H p o) → Tz (upd H p o) p xs → Q (.ref p) (upd H p o)
section
variable {X : Cx} {pins : List (Addr × Obj)} {σ : L2.St} {H : Hp} {s : Shared} {Q : VK}
theorem lay_new (I : Inv X pins σ H s) {xs : List V} {us : List Value} {n : Nat} (z : xs.length ≤ sizeLine) (r : Vals xs us) (q : NewT xs H Q) :
    EP X pins σ Q (.ref s.heap.objs.size) { s with heap := s.heap.push { cls := .type "tuple", data := .seq us.toArray n } } := by
  have new : H s.heap.objs.size = none := I.hok.fresh (Nat.le_refl _)
  have got : (s.heap.push { cls := .type "tuple", data := .seq us.toArray n }).get? s.heap.objs.size = some { cls := .type "tuple", data := .seq us.toArray n } := Heap.get?_push_size _ rfl
  refine ⟨.ref s.heap.objs.size, upd H s.heap.objs.size (.frz { cls := .type "tuple", data := .seq us.toArray n } (.tup xs)), I.laid (t' := s.toks) (fun b u e => Heap.get?_push_of_some _ e) (Nat.le_refl _) ⟨got, z, us, r, _, got, rfl, n, rfl⟩, rfl, ?_⟩
  refine q _ _ new (fun b x e => ?_) ⟨_, upd_same, rfl, rfl⟩
  rw [upd_ne (ne_of_none e new)]
  exact e
/-- a written tuple -/
def tTupZ (t : TA) : TE := fun σ H Q => t σ H fun xs H1 => xs.length ≤ sizeLine ∧ NewT xs H1 Q
theorem pe_tupZ {es : List Expr} {t : TA} {x1} {pos : Pos} (h : PA X es t) : PE X (.Tuple es x1 pos) (tTupZ t) := by
  refine ⟨fun pins s σ H Q I hq => wpAny_Tuple_spliced (thn (h.run pos pins s σ H _ I hq) fun us s1 ⟨xs, H1, I1, r, z, q⟩ => ⟨by rw [← r.length]; exact z, ?_⟩)⟩
  exact lay_new I1 z r q
/-- tuple(xs), xs a list -/
def rTupOf (K : PySem.W.Frag) : List V → Hp → VK → Prop := fun xs H Q => ∃ p ys, xs = [.ref p] ∧ SqL K H p ys ∧ ys.length ≤ 1000 ∧ NewT ys H Q
theorem call_tupOf : CallR X (.type "tuple") (rTupOf X.K) := by
  intro pins s σ H xs us Q I r h
  obtain ⟨p, ys, rfl, sq, le, q⟩ := h
  obtain ⟨u, rfl, rx⟩ := vals1 r
  cases rx
  obtain ⟨its, rv, pl, z⟩ := I.list sq
  have el := rv.length
  refine call_tuple_list pl.isList (fun h2 keep => ?_) (by simp only [List.size_toArray]; omega)
  exact lay_new (n := 0) (I.kept (t' := s.toks) keep) z rv q
/-- t[a:b], not the whole -/
def rCut (K : PySem.W.Frag) : V → Option Int → Option Int → Hp → VK → Prop := fun x lo hi H Q => ∃ a xs, x = .ref a ∧ SqT K H a xs ∧ ¬ (HT.sIx xs.length 0 lo = 0 ∧ HT.sIx xs.length xs.length hi = xs.length) ∧ NewT (cutV xs lo hi) H Q
theorem sl_cut : SlR X (rCut X.K) := by
  intro pins s σ H x v vl vu lo hi sl Q I rx hs pl pu h
  obtain ⟨a, xs, rfl, sq, part, q⟩ := h
  cases rx
  obtain ⟨its, r, at_, z⟩ := I.tuple sq
  have el : its.toArray.size = xs.length := by rw [List.size_toArray]; exact r.length.symm
  refine ⟨"tuple", _, PyProof.Rows.slot_tuple_getitem.lookup, at_.typeIs, HT.getItem_tuple_cut at_ hs pl pu (by rw [el]; exact part) ?_ (by rw [el]; exact z)⟩
  rw [el]
  exact lay_new I (Nat.le_trans (cutV_length xs lo hi) z) ((r.drop (HT.sIx xs.length 0 lo)).take (HT.sIx xs.length xs.length hi - HT.sIx xs.length 0 lo)) q
/-- t[a:b] of any kind: the whole is t itself; what comes is told by a relation that both give -/
def rCutA (K : PySem.W.Frag) : V → Option Int → Option Int → Hp → VK → Prop := fun x lo hi H Q => ∃ a xs, x = .ref a ∧ Tz H a xs ∧ (cutV xs lo hi = xs → Q (.ref a) H) ∧ NewT (cutV xs lo hi) H Q
theorem cut_whole {xs : List V} {lo hi : Option Int} (h : HT.sIx xs.length 0 lo = 0 ∧ HT.sIx xs.length xs.length hi = xs.length) : cutV xs lo hi = xs := by
  unfold cutV
  rw [h.1, h.2, List.drop_zero, Nat.sub_zero, List.take_of_length_le (Nat.le_refl _)]
theorem sl_cutA : SlR X (rCutA X.K) := by
  intro pins s σ H x v vl vu lo hi sl Q I rx hs pl pu h
  obtain ⟨a, xs, rfl, tz, q1, q2⟩ := h
  by_cases w : HT.sIx xs.length 0 lo = 0 ∧ HT.sIx xs.length xs.length hi = xs.length
  · exact sl_tupA pins s σ H _ v vl vu lo hi sl Q I rx hs pl pu ⟨a, xs, rfl, tz.sq, fun _ => q1 (cut_whole w), fun z => absurd w z⟩
  · exact sl_cut pins s σ H _ v vl vu lo hi sl Q I rx hs pl pu ⟨a, xs, rfl, tz.sq, w, q2⟩
/-- t + u -/
def rSum (K : PySem.W.Frag) : R2 := fun x y H Q => ∃ a b xs ys, x = .ref a ∧ y = .ref b ∧ Tz H a xs ∧ Tz H b ys ∧ xs.length + ys.length ≤ sizeLine ∧ (xs = [] → Q (.ref b) H) ∧ (ys = [] → Q (.ref a) H) ∧ NewT (xs ++ ys) H Q
theorem op_sum : OpR X (binaryOp .Add) (rSum X.K) := by
  intro pins s σ H x y v u Q I rx ry h
  obtain ⟨a, b, xs, ys, rfl, rfl, ta, tb, z, q0, q1, q2⟩ := h
  cases rx
  cases ry
  obtain ⟨its, r1, p1, _⟩ := I.tuple ta.sq
  obtain ⟨its2, r2, p2, _⟩ := I.tuple tb.sq
  by_cases e : xs = []
  · subst e
    cases r1
    exact cat_tup0 p1 p2 ⟨.ref b, H, I, rfl, q0 rfl⟩
  · refine HT.cat_tup p1 p2 (fun w => e (r1.nil_iff.mp w)) (fun w => ⟨.ref a, H, I, rfl, q1 (r2.nil_iff.mp w)⟩) (fun _ => ?_) (by rw [← r1.length, ← r2.length]; exact z)
    exact lay_new I (by rw [List.length_append]; exact z) (r1.append r2) q2
/-- t.m(e, ..), t a tuple made in the run -/
def tTm (r : V → List V → Hp → VK → Prop) (to : TE) (t : TA) : TE := fun σ H Q => to σ H fun x H1 => (∃ a xs, x = .ref a ∧ Tz H1 a xs) ∧ t σ H1 fun ys H2 => r x ys H2 Q
theorem pe_tm {o e : Expr} {es : List Expr} {to : TE} {t : TA} {name : Str} {apos cpos : Pos} {id : String} {r : V → List V → Hp → VK → Prop} (slot : Slot "tuple" name id) (hty : typeOf (.builtin id) = pure (.type "method_descriptor")) (hm : MtR X id r) (ho : PE X o to) (ha : PA X (e :: es) t)
    (hbase : attributeBase o name X.env (eval o X.env) = eval o X.env := by rfl)
    (few : ((backTo cpos (starEach (e :: es) X.env)).all (fun x => !x.1) && (backToKw cpos (keywordEach [] X.env)).all (fun x => x.1.isSome) && decide ((e :: es).length + ([] : List Keyword).length + (if ([] : List Keyword).isEmpty then 0 else 1) < 30)) = true := by rfl)
    (hline : (apos.endLine == cpos.line) = true := by rfl) (hs : starEach (e :: es) X.env = (false, eval e X.env) :: starEach es X.env := by rfl) (hpl : (backTo cpos (starEach es X.env)).any (·.1) = false := by rfl) :
    PE X (.Call (.Attribute o name apos) (e :: es) [] cpos) (tTm r to t) := by
  refine ⟨fun pins s σ H Q I h => wpAny_Call_method_late hbase few hline rfl (thn (ho.run pins s σ H _ I h) fun v s1 ⟨x, H1, I1, r1, ty, q1⟩ => ?_)⟩
  obtain ⟨a, xs, rfl, ob, eo, oc, od⟩ := ty
  cases r1
  have got : s1.heap.get? a = some ob := (show ObjOk X.prog X.w H1 s1.heap a (.frz ob (.tup xs)) from I1.hok a _ eo).1
  refine ⟨"tuple", id, PySem.F.plainAttrs_tuple, slot, hty, ⟨ob, got, oc⟩, fun b eb => by cases eb; exact ⟨ob, got, od⟩, ?_⟩
  have args := ha.run cpos pins s1 σ H1 _ I1 q1
  rw [hs] at args ⊢
  refine Calls.callWith_builtin (by show (false || (backTo cpos (starEach es X.env)).any (·.1)) = false; rw [hpl]; rfl) (Calls.evalArgs_plain (thn args fun us s2 ⟨vs, H2, I2, r2, q2⟩ => ?_))
  exact hm pins s2 σ H2 (.ref a) vs (.ref a) us Q I2 rfl r2 q2
end
end Xt

/-! Data at any depth, with dicts without entries anywhere in it: how it is read and shown. -/
namespace Gy
open PySem PySem.Spec PyProof.Rows L2 Xt
mutual
inductive Dn (K : PySem.W.Frag) (H : Hp) : V → PyData → Prop
  | non : Dn K H .non .none
  | bl (b : Bool) : Dn K H (.bl b) (.bool b)
  | int (i : Int) : Dn K H (.int i) (.int i)
  | str (x : Str) : Dn K H (.str x) (.str x)
  | lst {a : Addr} {xs : List V} {ds : List PyData} (h : H a = some (.lst xs)) (t : Dns K H xs ds) : Dn K H (.ref a) (.list ds)
  | tup {a : Addr} {xs : List V} {ds : List PyData} (h : Tz H a xs) (t : Dns K H xs ds) : Dn K H (.ref a) (.tuple ds)
  | dic {a : Addr} (h : H a = some (.dK [])) : Dn K H (.ref a) (.dict [])
inductive Dns (K : PySem.W.Frag) (H : Hp) : List V → List PyData → Prop
  | nil : Dns K H [] []
  | cons {v : V} {vs : List V} {d : PyData} {ds : List PyData} (h : Dn K H v d) (t : Dns K H vs ds) : Dns K H (v :: vs) (d :: ds)
end
mutual
theorem Dn.same {K : PySem.W.Frag} {H H' : Hp} (s : Same H H') : ∀ {v : V} {d : PyData}, Dn K H v d → Dn K H' v d
  | _, _, .non => .non
  | _, _, .bl b => .bl b
  | _, _, .int i => .int i
  | _, _, .str x => .str x
  | _, _, .lst h a => .lst (s _ _ h) (Dns.same s a)
  | _, _, .tup h a => .tup (h.same s) (Dns.same s a)
  | _, _, .dic h => .dic (s _ _ h)
theorem Dns.same {K : PySem.W.Frag} {H H' : Hp} (s : Same H H') : ∀ {vs : List V} {ds : List PyData}, Dns K H vs ds → Dns K H' vs ds
  | _, _, .nil => .nil
  | _, _, .cons h t => .cons (Dn.same s h) (Dns.same s t)
end
/-- a dict without entries, as the model has it -/
theorem dict_at {X : Cx} {pins : List (Addr × Obj)} {σ : L2.St} {H : Hp} {s : Shared} (I : Inv X pins σ H s) {a : Addr} (h : H a = some (.dK [])) :
    (a == sysModules) = false ∧ ∃ o es ep, s.heap.get? a = some o ∧ o.cls = .type "dict" ∧ o.data = .dict es ep ∧ es.toList = [] ∧ Reads s.heap (.ref a) (.dict []) [a] := by
  obtain ⟨_, ns, vs, kv, o, es, ep, g1, ex, g2, ks, ps, _⟩ := (show ObjOk X.prog X.w H s.heap a (.dK []) from I.hok a _ h)
  cases kv
  have e : es.toList = [] := by
    generalize es.toList = l at ps
    cases ps
    rfl
  exact ⟨ns, o, es, ep, g1, ex.1, g2, e, .dict g1 ex.1 g2 (as := []) (bs := []) (by rw [e]; exact .nil) (by rw [e]; exact .nil)⟩
section
variable {X : Cx} {pins : List (Addr × Obj)} {σ : L2.St} {H : Hp} {s : Shared}
mutual
theorem Dn.shows (I : Inv X pins σ H s) : ∀ {v : V} {d : PyData} {u : Value}, Dn X.K H v d → RelV v u → d.showable = true → d.shown.length ≤ sizeLine →
    ∃ as bs, Reads s.heap u d as ∧ ReadAtMost s.heap d.depth bs ∧ ReprK X.prog X.w bs s.heap d.depth u d.shown
  | _, _, _, .non, r, hs, hz => by
    cases r
    obtain ⟨bs, h1, h2⟩ := ReprK.of_reads (prog := X.prog) (w := X.w) (h₀ := s.heap) Reads.none hs (fun z => nomatch z) hz
    exact ⟨_, bs, .none, h1, h2⟩
  | _, _, _, .bl b, r, hs, hz => by
    cases r
    obtain ⟨bs, h1, h2⟩ := ReprK.of_reads (prog := X.prog) (w := X.w) (h₀ := s.heap) (Reads.bool b) hs (fun z => nomatch z) hz
    exact ⟨_, bs, .bool b, h1, h2⟩
  | _, _, _, .int i, r, hs, hz => by
    obtain ⟨t, rfl⟩ := r
    obtain ⟨bs, h1, h2⟩ := ReprK.of_reads (prog := X.prog) (w := X.w) (h₀ := s.heap) (Reads.int i t) hs (fun z => nomatch z) hz
    exact ⟨_, bs, .int i t, h1, h2⟩
  | _, _, _, .str x, r, hs, hz => by
    obtain ⟨t, rfl⟩ := r
    obtain ⟨bs, h1, h2⟩ := ReprK.of_reads (prog := X.prog) (w := X.w) (h₀ := s.heap) (Reads.str x t) hs (fun z => nomatch z) hz
    exact ⟨_, bs, .str x t, h1, h2⟩
  | _, _, _, .lst (a := a) (ds := ds) h ha, r, hs, hz => by
    cases r
    have hz' : (listText (PyData.shownAll ds)).length ≤ sizeLine := by simpa only [PyData.shown] using hz
    obtain ⟨its, rv, ⟨o, n, ho, hc, _, hd⟩, _⟩ := I.list (SqL.of h)
    obtain ⟨as, bs, hr, hb, hk⟩ := Dns.shows I ha rv (by simpa [PyData.showable] using hs) (fun t ht => Nat.le_trans (listText_mem_le ht) hz')
    have q : Reads s.heap (.ref a) (.list ds) _ := .list ho hc hd hr
    have hna : a ∉ bs := not_mem_of_deeper q (by simp only [PyData.depth]; omega) hb
    refine ⟨_, a :: bs, q, ReadAtMost.cons q (by simp only [PyData.depth]; omega) hb, ?_⟩
    simp only [PyData.depth, PyData.shown]
    cases its with
    | nil =>
      cases hr
      simp only [PyData.shownAll, listText_nil]
      exact ReprK.listEmpty ho hc hd
    | cons x l => exact ReprK.list ho hc hd hna (by simpa using hk.length_eq) (fun i y e => hk.item i y (by simpa using e))
  | _, _, _, .tup (a := a) (ds := ds) h ha, r, hs, hz => by
    cases r
    have hz' : (tupleText (PyData.shownAll ds)).length ≤ sizeLine := by simpa only [PyData.shown] using hz
    obtain ⟨its, rv, ⟨o, ho, hc, n, hd⟩, _⟩ := I.tuple h.sq
    obtain ⟨as, bs, hr, hb, hk⟩ := Dns.shows I ha rv (by simpa [PyData.showable] using hs) (fun t ht => Nat.le_trans (tupleText_mem_le ht) hz')
    have q : Reads s.heap (.ref a) (.tuple ds) _ := .tuple ho hc hd hr
    have hna : a ∉ bs := not_mem_of_deeper q (by simp only [PyData.depth]; omega) hb
    refine ⟨_, a :: bs, q, ReadAtMost.cons q (by simp only [PyData.depth]; omega) hb, ?_⟩
    simp only [PyData.depth, PyData.shown]
    exact ReprK.tuple ho hc hd hna hk
  | _, _, _, .dic (a := a) h, r, hs, hz => by
    cases r
    obtain ⟨ns, o, es, ep, ho, hc, hd, he, q⟩ := dict_at I h
    refine ⟨_, [a], q, ReadAtMost.cons q (n := 0) (Nat.zero_le _) (fun _ z => nomatch z), ?_⟩
    exact ReprK.dict (as := []) (d := 0) (ps := []) ho hc hd ns (fun z => nomatch z) (by rw [he]; exact .nil)
theorem Dns.shows (I : Inv X pins σ H s) : ∀ {vs : List V} {ds : List PyData} {us : List Value}, Dns X.K H vs ds → Vals vs us → PyData.showableAll ds = true → (∀ t ∈ PyData.shownAll ds, t.length ≤ sizeLine) →
    ∃ as bs, ReadsAll s.heap us ds as ∧ ReadAtMost s.heap (PyData.depthAll ds) bs ∧ ReprAllK X.prog X.w bs s.heap (PyData.depthAll ds) us (PyData.shownAll ds)
  | _, _, _, .nil, .nil, _, _ => ⟨[], [], .nil, (fun _ h => nomatch h), .nil⟩
  | _, _, _, .cons (d := d) (ds := ds) h hs, .cons r rs, sh, len => by
    have sh2 : d.showable = true ∧ PyData.showableAll ds = true := by simpa only [PyData.showableAll, Bool.and_eq_true] using sh
    obtain ⟨as, b1, rd, m1, k1⟩ := Dn.shows I h r sh2.1 (len _ List.mem_cons_self)
    obtain ⟨as2, b2, rd2, m2, k2⟩ := Dns.shows I hs rs sh2.2 fun t ht => len t (List.mem_cons_of_mem _ ht)
    have l1 : d.depth ≤ PyData.depthAll (d :: ds) := Nat.le_max_left _ _
    have l2 : PyData.depthAll ds ≤ PyData.depthAll (d :: ds) := Nat.le_max_right _ _
    refine ⟨as ++ as2, b1 ++ b2, .cons rd rd2, (m1.mono l1).append (m2.mono l2), ?_⟩
    exact .cons ((k1.more fun b hb => List.mem_append_left _ hb).level_le l1) (k2.more_le (fun b hb => List.mem_append_right _ hb) l2)
end
end
/-- repr of any such value -/
def rReprN (K : PySem.W.Frag) : List V → Hp → VK → Prop := fun xs H Q => ∃ v d, xs = [v] ∧ Dn K H v d ∧ d.showable = true ∧ d.depth ≤ 60 ∧ d.shown.length ≤ sizeLine ∧ Q (.str d.shown) H
theorem repr_dn {X : Cx} (hg : X.A.guards = some []) (hu : X.A.units + 70 < cLine) : CallR X (.builtin "repr") (rReprN X.K) := by
  intro pins s σ H xs us Q I r h
  obtain ⟨v, d, rfl, dn, sh, dp, len, q⟩ := h
  obtain ⟨u, rfl, ru⟩ := vals1 r
  have fin : ∀ (h' : Heap) (x : Tok) (tk : Nat), (∀ b o, s.heap.get? b = some o → h'.get? b = some o) → ∃ y H', Inv X pins σ H' { s with heap := h', toks := tk } ∧ RelV y (.str d.shown x) ∧ Q y H' := fun h' x tk hk => ⟨.str d.shown, H, I.kept hk, ⟨x, rfl⟩, q⟩
  cases dn with
  | non =>
    cases ru
    exact P.repr_of_none ⟨.str "None", H, I.tok _, ⟨_, rfl⟩, q⟩
  | bl b =>
    cases ru
    exact P.repr_of_bool ⟨.str (PyData.shown (.bool b)), H, I.tok _, ⟨_, by cases b <;> rfl⟩, q⟩
  | int i =>
    obtain ⟨t, rfl⟩ := ru
    exact P.repr_of_int (by simpa [PyData.showable] using sh) ⟨.str (toString i), H, I.tok _, ⟨_, rfl⟩, q⟩
  | str x =>
    obtain ⟨t, rfl⟩ := ru
    exact P.repr_of_str ⟨.str (reprText x), H, I.tok _, ⟨_, rfl⟩, q⟩ len
  | @lst a ys ds h ha =>
    cases ru
    have len' : (listText (PyData.shownAll ds)).length ≤ sizeLine := by simpa only [PyData.shown] using len
    obtain ⟨its, rv, ⟨o, n, g1, g2, _, g3⟩, _⟩ := I.list (SqL.of h)
    obtain ⟨as, bs, rd, at_, sw⟩ := Dns.shows I ha rv (by simpa [PyData.showable] using sh) fun t ht => Nat.le_trans (listText_mem_le ht) len'
    have out : a ∉ bs := not_mem_of_deeper (.list g1 g2 g3 rd) (by simp only [PyData.depth]; omega) at_
    refine call_repr_slot (T := "list") (idr := "list.__repr__") (by omega) ⟨o, g1, g2⟩ F.slot_list_repr.toG ?_
    match its, rv, g3, rd, sw with
    | [], rv, g3, rd, _ =>
      cases rd
      exact call_list_repr_empty ⟨o, g1, g2⟩ g1 g3 ⟨_, _, rfl, .str "[]", H, I.tok _, ⟨_, rfl⟩, by simpa only [PyData.shown, PyData.shownAll, listText_nil] using q⟩
    | x :: rest, _, g3, _, sw =>
      refine call_list_reprK g1 g2 g3 out (by simpa using sw.length_eq) (fun i y e => sw.item i y (by simpa using e)) (g := []) hg (fun b _ => Clear.nil b) (d := PyData.depthAll ds) ?_ (fun _ _ e => e) (fun h' u tk hk => ⟨_, _, rfl, fin h' u tk hk⟩) len'
      simp only [PyData.depth] at dp
      show X.A.units + 1 + (PyData.depthAll ds + 1) < cLine
      omega
  | @tup a ys ds h ha =>
    cases ru
    have len' : (tupleText (PyData.shownAll ds)).length ≤ sizeLine := by simpa only [PyData.shown] using len
    obtain ⟨its, rv, ⟨o, g1, g2, n, g3⟩, _⟩ := I.tuple h.sq
    obtain ⟨as, bs, rd, at_, sw⟩ := Dns.shows I ha rv (by simpa [PyData.showable] using sh) fun t ht => Nat.le_trans (tupleText_mem_le ht) len'
    have out : a ∉ bs := not_mem_of_deeper (.tuple g1 g2 g3 rd) (by simp only [PyData.depth]; omega) at_
    refine call_repr_slot (T := "tuple") (idr := "tuple.__repr__") (by omega) ⟨o, g1, g2⟩ F.slot_tuple_repr ?_
    refine call_tuple_reprK g1 g2 g3 out sw (g := []) hg (fun b _ => Clear.nil b) (d := PyData.depthAll ds) ?_ (fun _ _ e => e) (fun h' u tk hk => ⟨_, _, rfl, fin h' u tk hk⟩) len'
    simp only [PyData.depth] at dp
    show X.A.units + 1 + (PyData.depthAll ds + 1) < cLine
    omega
  | @dic a h =>
    cases ru
    obtain ⟨ns, o, es, ep, g1, g2, g3, he, _⟩ := dict_at I h
    refine call_repr_slot (T := "dict") (idr := "dict.__repr__") (by omega) ⟨o, g1, g2⟩ F.slot_dict_repr ?_
    refine call_dict_reprK (as := []) (d := 0) (ps := []) g1 g2 g3 ns (fun z => nomatch z) (by rw [he]; exact .nil) (g := []) hg (fun b _ => Clear.nil b) ?_ (fun _ _ e => e) (fun h' u tk hk => ⟨_, _, rfl, fin h' u tk hk⟩) len
    show X.A.units + 1 + (0 + 1) < cLine
    omega
end Gy

/-! len(set(t)) of a tuple of texts, of any number of them. -/
namespace Xs
open PySem PySem.Spec PyProof.Rows L2
/-- how many different ones the first i are -/
def numd (xs : List Str) : Nat → Nat
  | 0 => 0
  | i + 1 => if xs.getD i Str.empty ∈ xs.take i then numd xs i else numd xs i + 1
theorem numd_le (xs : List Str) : ∀ i, numd xs i ≤ i
  | 0 => Nat.le_refl _
  | i + 1 => by
    have := numd_le xs i
    unfold numd
    split <;> omega
theorem numd_full (xs : List Str) : ∀ i, i ≤ xs.length → (numd xs i = i ↔ (xs.take i).Nodup)
  | 0, _ => by simp [numd]
  | i + 1, hi => by
    have lt : i < xs.length := hi
    have ih := numd_full xs i (Nat.le_of_lt lt)
    have le := numd_le xs i
    have e : xs.getD i Str.empty = xs[i] := by rw [List.getD_eq_getElem?_getD, List.getElem?_eq_getElem lt]; rfl
    have t : xs.take (i + 1) = xs.take i ++ [xs[i]] := by rw [List.take_add_one, List.getElem?_eq_getElem lt]; rfl
    unfold numd
    rw [e, t]
    by_cases m : xs[i] ∈ xs.take i
    · rw [if_pos m]
      refine ⟨fun z => by omega, fun z => ?_⟩
      rw [List.nodup_append] at z
      exact absurd rfl (z.2.2 _ m _ List.mem_cons_self)
    · rw [if_neg m]
      refine ⟨fun z => ?_, fun z => ?_⟩
      · rw [List.nodup_append]
        refine ⟨ih.mp (by omega), by simp, fun a ha b hb ab => ?_⟩
        rw [List.mem_singleton.mp hb] at ab
        exact m (ab ▸ ha)
      · rw [List.nodup_append] at z
        rw [ih.mpr z.1]
section
variable {P : Program} {w : World} {A : Around} {R : Result → Shared → Prop} {J : Addr} {fp wr : List Addr} {G : Array GenState → Array GenState → Prop} {n : Nat} {Y : Nat → Value → Prop} {Z : Nat → Shared → Prop}
/-- the set takes text after text -/
theorem take_texts (W : WalksS P w A.in1 J fp wr G n Y Z) (S : Addr) (out : S ∉ fp) (xs : List Str) (len : xs.length = n) (room : n + 1 < scanBound) (val : ∀ i v, Y i v → ∃ t, v = .str (xs.getD i Str.empty) t) :
    ∀ (k i : Nat) (s : Shared), n - i = k → i ≤ n → Z i s → s.heap.SetOf (strKind P w) S (fun x => decide (x ∈ xs.take i)) (numd xs i) →
      (∀ s2, Moved (S :: wr) G s s2 → s2.heap.SetOf (strKind P w) S (fun x => decide (x ∈ xs.take n)) (numd xs n) → R (.ok (.ret .none)) s2) →
      codeAny (model P w) A (.builtin "set.update.loop" ⟨[.ref S, .ref J], []⟩) R s := by
  have out2 : S ∉ wr := fun h => out (W.sub _ h)
  have more : ∀ b ∈ wr, b ∈ S :: wr := fun b hb => List.mem_cons_of_mem _ hb
  intro k
  induction k with
  | zero =>
    intro i s ek le z hS fin
    obtain rfl : i = n := by omega
    refine codeAny_builtin PyProof.Rows.F.entry_set_update_loop ?_; rw [Around.under_plainId PyProof.Rows.F.plain_set_update_loop _]
    show wpAny _ A.in1 (pyNext (.ref J) >>= _) _ _ s
    refine wpAny_bind (W.done s _ _ z fun s2 mv => ?_)
    obtain ⟨o, es, ep, t, ho, rest⟩ := hS
    exact wpAny_pure (fin s2 (mv.mono more) ⟨o, es, ep, t, mv.heap S _ out2 ho, rest⟩)
  | succ k ih =>
    intro i s ek le z hS fin
    have lt : i < n := by omega
    refine codeAny_builtin PyProof.Rows.F.entry_set_update_loop ?_; rw [Around.under_plainId PyProof.Rows.F.plain_set_update_loop _]
    show wpAny _ A.in1 (pyNext (.ref J) >>= _) _ _ s
    refine wpAny_bind (W.item i s _ _ lt z fun v s2 hY z2 mv => ?_)
    obtain ⟨t, rfl⟩ := val i v hY
    have hS2 : s2.heap.SetOf (strKind P w) S (fun x => decide (x ∈ xs.take i)) (numd xs i) := by
      obtain ⟨o, es, ep, tb, ho, rest⟩ := hS
      exact ⟨o, es, ep, tb, mv.heap S _ out2 ho, rest⟩
    show wpAny _ A.in1 (holding [Value.str (xs.getD i Str.empty) t] (setAdd S (.str (xs.getD i Str.empty) t)) >>= _) _ _ s2
    refine wpAny_bind (wpAny_holding ?_); unfold setAdd; refine wpAny_holding ?_
    refine wpAny_bind ((strKind P w).pyHash (k := xs.getD i Str.empty) (strKind_is _ _ _ _) ?_)
    have nl := numd_le xs i
    refine wpAny_setAddHashed_of (knd := strKind P w) (s := { s2 with toks := s2.toks + 1 }) (strKind_is _ _ _ _) rfl hS2 (by omega) fun h3 sb hS3 => ?_
    have hS4 : h3.SetOf (strKind P w) S (fun x => decide (x ∈ xs.take (i + 1))) (numd xs (i + 1)) := by
      have lt' : i < xs.length := by omega
      have e : xs.getD i Str.empty = xs[i] := by rw [List.getD_eq_getElem?_getD, List.getElem?_eq_getElem lt']; rfl
      have t : xs.take (i + 1) = xs.take i ++ [xs[i]] := by rw [List.take_add_one, List.getElem?_eq_getElem lt']; rfl
      refine SetOf_congr hS3 (fun x => ?_) ?_
      · show (decide (x ∈ xs.take i) || decide (x = xs.getD i Str.empty)) = decide (x ∈ xs.take (i + 1))
        rw [e, ← Bool.decide_or]
        congr 1
        rw [t, List.mem_append, List.mem_singleton]
      · show _ = if xs.getD i Str.empty ∈ xs.take i then numd xs i else numd xs i + 1
        simp only [decide_eq_true_eq]
    refine wpAny_pure ⟨plainId_quiet PyProof.Rows.F.plain_set_update_loop _, ih (i + 1) _ (by omega) lt (W.frame _ s2 _ _ z2 (Nat.le_succ _) fun b hb o e => ?_) hS4 fun s4 mv4 hS5 => ?_⟩
    · rw [sb.2 b (fun h : b = S => out (h ▸ hb))]
      exact e
    · refine fin s4 (Moved.trans W.gtrans ((mv.mono more).then_heap (Nat.le_succ _) fun b o hb e => ?_) mv4) hS5
      rw [sb.2 b (fun h : b = S => hb (h ▸ List.mem_cons_self))]
      exact e
end
/-- the set before anything is in it -/
def set0 (b : Bool) : Obj := { cls := .type "set", dict := none, data := .set #[] 0 (.fresh 0 0 b) }
section
variable {P : Program} {w : World} {A : Around} {E : Value → Shared → Prop} {s : Shared}
set_option maxHeartbeats 3200000 in
theorem set_of_texts {l : Addr} {its : Array Value} {xs : List Str} {Q : Value → Shared → Prop} (calm : A.handled = none) (at_ : s.heap.IsTuple l its) (are : StrsAre its.toList xs) (room : xs.length + 1 < scanBound)
    (fin : ∀ (h2 : Heap) (tk : Nat), h2.SetOf (strKind P w) s.heap.objs.size (fun x => decide (x ∈ xs)) (numd xs xs.length) → (∀ b o, b < s.heap.objs.size → s.heap.get? b = some o → h2.get? b = some o) → Q (.ref s.heap.objs.size) { s with heap := h2, toks := tk }) :
    wpAny (model P w) A (call (.type "set") [.ref l]) Q E s := by
  have sz : xs.length = its.size := by rw [← StrsAre.len_eq are, Array.length_toList]
  obtain ⟨_, _, m0⟩ := PySem.F.called_set.mro
  have m1 := PySem.F.called_set.made; have m2 := PySem.F.called_set.sub
  refine wpAny_call (codeAny_of_tree ?_); show wpAny _ _ (callAny (.type "set") _) _ _ _
  refine wpAny_pure ⟨Code.quiet_builtin _ (by decide +kernel), codeAny_builtin PySem.F.entry_type_call ?_⟩; rw [Around.under_plain (weight_type_call_type "set" [.ref l] []) rfl]
  have m3 := PySem.F.called_set.notType; have m4 := PySem.F.called_set.canCreate; have m5 := PySem.F.typeCall_set_1 (.ref l)
  repeat (any_goals (first | assumption | wp_step))
  refine codeAny_mono (code_set_new_1 (.ref l) (E := E) (Q₁ := fun ob s1 => ∃ led : Bool, ob = .ref s.heap.objs.size ∧ s1 = { s with heap := s.heap.push (set0 led) }) fun led => ⟨led, rfl, rfl⟩) fun r s1 hr => ?_
  rcases r with e | (_ | _ | _ | ob)
  · exact hr
  · exact hr.elim
  · exact hr.elim
  · exact hr.elim
  obtain ⟨led, rfl, rfl⟩ := hr
  have got : (s.heap.push (set0 led)).get? s.heap.objs.size = some (set0 led) := Heap.get?_push_size _ rfl
  have ty : Shared.TypeIs { s with heap := s.heap.push (set0 led) } (.ref s.heap.objs.size) "set" := ⟨_, got, rfl⟩
  have m6 := PySem.F.called_set.init.lookup; have m7 := PySem.F.called_set.init.bind (.ref s.heap.objs.size)
  repeat (any_goals (first | assumption | wp_step))
  refine codeAny_mono (codeAny_call_builtin (R := wants (fun r s2 => r = .none ∧ ∃ h2 tk, s2 = { s with heap := h2, toks := tk } ∧ h2.SetOf (strKind P w) s.heap.objs.size (fun x => decide (x ∈ xs)) (numd xs xs.length) ∧
      (∀ b o, b < s.heap.objs.size → s.heap.get? b = some o → h2.get? b = some o)) E) PySem.F.called_set.init.plain PySem.F.entry_set_init (check_set_init_1 ty ?_)) fun r2 s2 hr2 => ?_
  · obtain ⟨ol, go, co, nl, dl⟩ := at_
    obtain ⟨ocls, odict, odata, oslots⟩ := ol
    simp only at co dl
    subst co dl
    have go2 : (s.heap.push (set0 led)).get? l = some { cls := .type "tuple", dict := odict, data := .seq its nl, slots := oslots } := Heap.get?_push_of_some _ go
    have m8 := PySem.F.sub_tuple_set; have m9 := PySem.F.sub_tuple_frozenset
    have m10 : (Value.type "tuple" == Value.type "dict") = false := by decide
    have at2 : (s.heap.push (set0 led)).IsTuple l its := ⟨_, go2, rfl, nl, rfl⟩
    unfold Builtin.«set.__init__» noKeywords Builtin.Frozenset.updateFrom; generalize ePI : pyIter = PI
    wp_walk
    subst ePI
    refine wpAny_pyIter_tuple at2 (wpAny_bind (wpAny_runValue ?_))
    have low : l < s.heap.objs.size := Heap.lt_size go
    have calm3 : A.in1.in1.in1.handled = none := by simp [calm]
    have far : l ≠ (s.heap.push (set0 led)).objs.size := by rw [Heap.size_push]; exact Nat.ne_of_lt (Nat.lt_succ_of_lt low)
    have out : s.heap.objs.size ∉ [(s.heap.push (set0 led)).objs.size, l] := by
      rw [Heap.size_push]
      simp only [List.mem_cons, List.not_mem_nil, or_false, not_or]
      exact ⟨Nat.ne_of_lt (Nat.lt_succ_self _), Nat.ne_of_gt low⟩
    refine take_texts ((Walks.tuple calm3 _ l far its).toS) s.heap.objs.size out xs sz (by rw [← sz]; exact room) (fun i v hv => SS.strs_at are i v (by rw [Array.getElem?_toList]; exact hv)) (its.size - 0) 0 _ (by omega) (Nat.zero_le _)
      ⟨⟨_, Heap.get?_push_size _ rfl, rfl, rfl⟩, at2.push _⟩ ?first ?last
    case first =>
      have got2 : ((s.heap.push (set0 led)).push { cls := .type "tuple_iterator", data := .fields #[.ref l, .int 0 0] }).get? s.heap.objs.size = some (set0 led) := Heap.get?_push_of_some _ got
      exact SetOf_congr ((setObjOf_fresh (knd := strKind P w) led).setOf got2 (by unfold scanBound; omega)) (fun _ => rfl) rfl
    case last =>
      intro s2 mv hS
      obtain ⟨h2, g2, d2, tk2, os2⟩ := s2
      obtain rfl : g2 = s.gens := mv.gens
      obtain rfl : d2 = s.drawn := mv.drawn
      obtain rfl : os2 = s.os := mv.os
      rw [← sz, List.take_of_length_le (Nat.le_refl _)] at hS
      show wpAny _ _ _ _ _ _
      refine wpAny_pure (wpAny_pure ⟨rfl, h2, tk2, rfl, hS, fun b o lb e => ?_⟩)
      refine mv.heap b o ?_ (Heap.get?_push_of_some _ (Heap.get?_push_of_some _ e))
      rw [Heap.size_push]
      simp only [List.mem_cons, List.not_mem_nil, or_false, not_or]
      exact ⟨Nat.ne_of_lt lb, Nat.ne_of_lt (Nat.lt_succ_of_lt lb)⟩
  · rcases r2 with e | (_ | _ | _ | r)
    · exact hr2
    · exact hr2.elim
    · exact hr2.elim
    · exact hr2.elim
    obtain ⟨rfl, h2, tk, rfl, hS, keep⟩ := hr2
    repeat (any_goals (first | assumption | wp_step))
    exact fin _ _ hS keep
end
section
variable {X : Cx}
/-- len(set(t)), t a tuple of texts -/
def tLenTexts (K : PySem.W.Frag) (ta : TE) : TE := fun σ H Q => ta σ H fun x H1 => ∃ (l : Addr) (xs : List Str), x = .ref l ∧ SqT K H1 l (xs.map V.str) ∧ xs.length ≤ 4000 ∧ Q (.int (numd xs xs.length : Nat)) H1
theorem pe_lenTexts {a : Expr} {ta : TE} {p p2 q pos : Pos} (hg : Gl X "len") (hm : X.mg "len" = none) (hg2 : Gl X "set") (hm2 : X.mg "set" = none) (ha : PE X a ta) (calm : X.calm = true := by rfl)
    (na : starEach [a] X.env = (false, eval a X.env) :: starEach [] X.env := by rfl) : PE X (.Call (.Name "len" p) [.Call (.Name "set" p2) [a] [] q] [] pos) (tLenTexts X.K ta) := by
  refine ⟨fun pins s σ H Q I h => Call_ (ld_blt I hg hm boot_len ?_)⟩
  refine PyProof.Rows.callWith_builtin1 (PyProof.Rows.args_cons (Call_ (ld_blt I hg2 hm2 boot_set ?_)) rfl) rfl rfl
  refine PyProof.Rows.callWith_type1 (PyProof.Rows.args_cons (thn (ha.run pins s σ H _ I h) fun v s1 ⟨x, H1, I1, r1, q1⟩ => PyProof.Rows.args_nil ?_) na) na rfl
  obtain ⟨l, xs, rfl, sq, le, q1⟩ := q1
  cases r1
  obtain ⟨its, r, pl, _⟩ := I1.tuple sq
  refine set_of_texts (I1.ok.hd calm) pl (by simpa using strsAre_of r) (by unfold scanBound; omega) fun h2 tk hS keep => ?_
  refine PyProof.Rows.args_nil ?_
  obtain ⟨o, es, ep, t, ho, ex, hd, _, _, _, hf, hn⟩ := hS
  have I2 : Inv X pins σ H1 { s1 with heap := h2, toks := tk } := I1.kept fun b o e => keep b o (Heap.lt_size e) e
  have nl := numd_le xs xs.length
  exact call_len_set ho ex hd hf (by rw [hn]; omega) ⟨.int (numd xs xs.length : Nat), H1, I2.tok _, ⟨_, by rw [hn]⟩, q1⟩
end
end Xs

/-! Defs and what is known of them in one word; the built-in names that are not taken. -/
namespace My
open PySem PySem.Spec PyProof.Rows L2 Gy Xl Xs Xt
/-- no name of the module's own hides a built-in one -/
structure Bn (mg : Str → Option Value) : Prop where
  len : mg "len" = none
  range : mg "range" = none
  abs : mg "abs" = none
  max : mg "max" = none
  min : mg "min" = none
  divmod : mg "divmod" = none
  isinstance : mg "isinstance" = none
  str : mg "str" = none
  int : mg "int" = none
  bool : mg "bool" = none
  tuple : mg "tuple" = none
  list : mg "list" = none
  set : mg "set" = none
  dict : mg "dict" = none
  all : mg "all" = none
  any : mg "any" = none
  repr : mg "repr" = none
  sorted : mg "sorted" = none
  enumerate : mg "enumerate" = none
  zip : mg "zip" = none
/-- a def of the top, by its name, with its promise -/
structure Fk (P : Program) (w : World) (K : PySem.W.Frag) (mg : Str → Option Value) (base : Heap) (CX : CXT) (k : Nat) (nm : Str) (ps : List Str) (sp : Sp) : Prop where
  ex : ∃ (f : Addr) (fd : FuncData), mg nm = some (.ref f) ∧ PySem.W.keepIn K (.ref f) = true ∧ Binds K fd ps [] ∧ FnOk P w K mg base CX k f fd ps sp
/-- the same where no repr is under way -/
structure Fg (P : Program) (w : World) (K : PySem.W.Frag) (mg : Str → Option Value) (base : Heap) (CX : CXT) (k : Nat) (nm : Str) (ps : List Str) (sp : Sp) : Prop where
  ex : ∃ (f : Addr) (fd : FuncData), mg nm = some (.ref f) ∧ PySem.W.keepIn K (.ref f) = true ∧ Binds K fd ps [] ∧ FnG P w K mg base CX k f fd ps sp
section
variable {P : Program} {w : World} {K : PySem.W.Frag} {mg : Str → Option Value} {base : Heap} {CX : CXT} {k : Nat} {nm : Str} {ps : List Str} {sp : Sp}
theorem Fk.imp {sp' : Sp} (F : Fk P w K mg base CX k nm ps sp) (h : ∀ vs H Q E, sp' vs H Q E → sp vs H Q E) : Fk P w K mg base CX k nm ps sp' := by
  obtain ⟨f, fd, a, b, c, d⟩ := F.ex
  exact ⟨f, fd, a, b, c, d.imp h⟩
theorem Fk.g (F : Fk P w K mg base CX k nm ps sp) : Fg P w K mg base CX k nm ps sp := by
  obtain ⟨f, fd, a, b, c, d⟩ := F.ex
  exact ⟨f, fd, a, b, c, .of d⟩
/-- what is raised is never raised -/
theorem passN {X : Cx} : Passes (L2.CX X.prog X.w) X (fun _ _ _ => False) := by
  rintro pins σ H s e s' I ⟨a, B, H', cls, d, _, _, _, _, _, _, _, f⟩
  exact f.elim
end
section
variable {X : Cx} {CX : CXT} {k : Nat} {ps : List Str} {sp : Sp} {E : XK} {x : Str} {p pos : Pos} {e : Expr} {es : List Expr} {t : TA}
theorem pe_callF (F : Fk X.prog X.w X.K X.mg X.base CX k x ps sp) (hr : Room k X.A) (hg : Gl X x) (hx : Passes CX X E) (ha : PA X (e :: es) t)
    (hdb : (x == ("__debug__" : Str)) = false := by decide) (he : starEach (e :: es) X.env = (false, eval e X.env) :: starEach es X.env := by rfl)
    (hpl : (backTo pos (starEach es X.env)).any (·.1) = false := by rfl) : PE X (.Call (.Name x p) (e :: es) [] pos) (tCall sp [] E t) := by
  obtain ⟨f, fd, m, kp, b, G⟩ := F.ex
  exact pe_call G hr hg m kp b .nil hx ha hdb he hpl
theorem pe_callFg (F : Fg X.prog X.w X.K X.mg X.base CX k x ps sp) (gd : X.A.guards = some []) (hr : Room k X.A) (hg : Gl X x) (hx : Passes CX X E) (ha : PA X (e :: es) t)
    (hdb : (x == ("__debug__" : Str)) = false := by decide) (he : starEach (e :: es) X.env = (false, eval e X.env) :: starEach es X.env := by rfl)
    (hpl : (backTo pos (starEach es X.env)).any (·.1) = false := by rfl) : PE X (.Call (.Name x p) (e :: es) [] pos) (tG sp E t) := by
  obtain ⟨f, fd, m, kp, b, G⟩ := F.ex
  exact pe_callG G gd hr hg m kp b hx ha hdb he hpl
end
/-! ### heaps -/
theorem same_upd {H : Hp} {p : Addr} {o : HO} (h : H p = none) : Same H (upd H p o) := fun b x e => by
  rw [upd_ne (ne_of_none e h)]
  exact e
/-- a new object that is written once more: what stood before stands -/
theorem same_upd2 {H0 H : Hp} {p : Addr} {o : HO} (s : Same H0 H) (h : H0 p = none) : Same H0 (upd H p o) := fun b x e => by
  rw [upd_ne (ne_of_none e h)]
  exact s b x e
/-- all but r stands -/
def But (r : Addr) (H H' : Hp) : Prop := ∀ b o, b ≠ r → H b = some o → H' b = some o
theorem But.refl (r : Addr) (H : Hp) : But r H H := fun _ _ _ h => h
theorem But.trans {r : Addr} {H H1 H2 : Hp} (a : But r H H1) (b : But r H1 H2) : But r H H2 := fun c o n h => b c o n (a c o n h)
theorem But.of {r : Addr} {H H' : Hp} (s : Same H H') : But r H H' := fun c o _ h => s c o h
theorem But.upd {r L : Addr} {H H' : Hp} {o : HO} (h : But r H H') (n : H L = none) : But r H (L2.upd H' L o) := fun c u nc e => by
  rw [upd_ne (ne_of_none e n)]
  exact h c u nc e
theorem small200 {n : Nat} (h : n ≤ 10000) : n < sizeLine := Nat.lt_of_le_of_lt h (by decide)
theorem le200 {n : Nat} (h : n ≤ 10000) : n ≤ sizeLine := Nat.le_of_lt (small200 h)
/-- an item of a list of texts, by a number below its length -/
theorem at_in {α : Type} {xs : List α} {d : Int} (h0 : 0 ≤ d) (h1 : d < (xs.length : Int)) : ∃ v, atI xs d = some v ∧ v ∈ xs := by
  obtain ⟨j, rfl⟩ := Int.eq_ofNat_of_zero_le h0
  have hj : j < xs.length := by omega
  exact ⟨xs[j], atI_nat (List.getElem?_eq_getElem hj), List.getElem_mem hj⟩
theorem fun_g0 {P : Program} {w : World} {K : PySem.W.Frag} {mg : Str → Option Value} {base : Heap} {k : Nat} {f : Addr} {fd : FuncData} {ps N : List Str} {sp : Sp} {x qual : Str} {st : Stmt} (F : Fun K x qual st f fd) (S : FnScope N ps (defScope st)) (ln : ∀ {vs H Q E}, sp vs H Q E → vs.length = ps.length)
    (bd : ∀ (cdv : Value) (A : Around) (outer : List Env) (s : Shared) (H : Hp) (vs : List V) (Q : VK) (E : XK), A.guards = some [] →
      Room k (A.deeper (envOfC qual (defScope st) s.heap.objs.size f cdv)) → sp vs H Q E →
      ∃ t, PSs (cxOf CX0 P w K mg base N qual (defScope st) f cdv A outer s H E).nox (defBody st) t ∧
        t { nx := fun _ H' => Q .non H', rt := Q } (start N vs) H) : FnG P w K mg base CX0 (k + 1) f fd ps sp := by
  refine fun_g F S ln fun cdv A outer s H vs Q E g hr h => ?_
  obtain ⟨t, ht, hq⟩ := bd cdv A outer s H vs Q E g hr h
  exact ⟨t, ht.nox, hq⟩
theorem Room.units70 {k : Nat} {A : Around} (r : Room k A) : A.units + 70 < cLine := by
  have := r.un
  omega
theorem all_true {n : Nat} : ((List.replicate n true).all id) = true := by
  induction n with
  | zero => rfl
  | succ n ih => rw [List.replicate_succ, List.all_cons, ih]; rfl
end My

namespace My
open PySem PySem.Spec PyProof.Rows L2
def top (i : Nat) : Stmt := PySem.Challenge.pw_relinktree_k23_item_texts_spoilt.main.body.getD i (.Pass ⟨0, 0, 0, 0⟩)
abbrev s_is_host_name : Stmt := top 11
theorem sc_is_host_name : FnScope ["value"] ["value"] (defScope s_is_host_name) := ⟨rfl, rfl, rfl, by decide +kernel, rfl, by decide +kernel, by decide +kernel⟩
abbrev s_is_word : Stmt := top 12
theorem sc_is_word : FnScope ["value"] ["value"] (defScope s_is_word) := ⟨rfl, rfl, rfl, by decide +kernel, rfl, by decide +kernel, by decide +kernel⟩
abbrev s_is_text_of : Stmt := top 13
theorem sc_is_text_of : FnScope ["value", "characters", "longest", "character"] ["value", "characters", "longest"] (defScope s_is_text_of) := ⟨rfl, rfl, rfl, by decide +kernel, rfl, by decide +kernel, by decide +kernel⟩
abbrev s_is_integer_from : Stmt := top 15
theorem sc_is_integer_from : FnScope ["value", "least"] ["value", "least"] (defScope s_is_integer_from) := ⟨rfl, rfl, rfl, by decide +kernel, rfl, by decide +kernel, by decide +kernel⟩
abbrev s_is_index : Stmt := top 16
theorem sc_is_index : FnScope ["value", "size"] ["value", "size"] (defScope s_is_index) := ⟨rfl, rfl, rfl, by decide +kernel, rfl, by decide +kernel, by decide +kernel⟩
abbrev s_parse_index : Stmt := top 17
theorem sc_parse_index : FnScope ["text", "size", "written", "index"] ["text", "size"] (defScope s_parse_index) := ⟨rfl, rfl, rfl, by decide +kernel, rfl, by decide +kernel, by decide +kernel⟩
abbrev s_is_relink : Stmt := top 20
theorem sc_is_relink : FnScope ["value", "path", "cut"] ["value"] (defScope s_is_relink) := ⟨rfl, rfl, rfl, by decide +kernel, rfl, by decide +kernel, by decide +kernel⟩
abbrev s_is_relink_path : Stmt := top 21
theorem sc_is_relink_path : FnScope ["value", "host"] ["value"] (defScope s_is_relink_path) := ⟨rfl, rfl, rfl, by decide +kernel, rfl, by decide +kernel, by decide +kernel⟩
abbrev s_is_cut_of : Stmt := top 22
theorem sc_is_cut_of : FnScope ["path", "value"] ["path", "value"] (defScope s_is_cut_of) := ⟨rfl, rfl, rfl, by decide +kernel, rfl, by decide +kernel, by decide +kernel⟩
abbrev s_relink_text : Stmt := top 23
theorem sc_relink_text : FnScope ["relink", "path", "cut", "hosts"] ["relink"] (defScope s_relink_text) := ⟨rfl, rfl, rfl, by decide +kernel, rfl, by decide +kernel, by decide +kernel⟩
abbrev s_relink_from : Stmt := top 24
theorem sc_relink_from : FnScope ["hosts", "cut", "path"] ["hosts", "cut"] (defScope s_relink_from) := ⟨rfl, rfl, rfl, by decide +kernel, rfl, by decide +kernel, by decide +kernel⟩
abbrev s_is_item : Stmt := top 30
theorem sc_is_item : FnScope ["value", "parts"] ["value"] (defScope s_is_item) := ⟨rfl, rfl, rfl, by decide +kernel, rfl, by decide +kernel, by decide +kernel⟩
abbrev s_are_message_parts : Stmt := top 31
theorem sc_are_message_parts : FnScope ["parts", "writer", "word", "bit"] ["parts"] (defScope s_are_message_parts) := ⟨rfl, rfl, rfl, by decide +kernel, rfl, by decide +kernel, by decide +kernel⟩
abbrev s_is_control_kind : Stmt := top 32
theorem sc_is_control_kind : FnScope ["value"] ["value"] (defScope s_is_control_kind) := ⟨rfl, rfl, rfl, by decide +kernel, rfl, by decide +kernel, by decide +kernel⟩
abbrev s_check_item : Stmt := top 33
theorem sc_check_item : FnScope ["value"] ["value"] (defScope s_check_item) := ⟨rfl, rfl, rfl, by decide +kernel, rfl, by decide +kernel, by decide +kernel⟩
abbrev s_item_text : Stmt := top 34
theorem sc_item_text : FnScope ["item", "part"] ["item"] (defScope s_item_text) := ⟨rfl, rfl, rfl, by decide +kernel, rfl, by decide +kernel, by decide +kernel⟩
abbrev s_parse_item : Stmt := top 35
theorem sc_parse_item : FnScope ["text", "item"] ["text"] (defScope s_parse_item) := ⟨rfl, rfl, rfl, by decide +kernel, rfl, by decide +kernel, by decide +kernel⟩
abbrev s_item_from : Stmt := top 36
theorem sc_item_from : FnScope ["parts", "kind", "writer", "word", "bit", "path", "cut"] ["parts"] (defScope s_item_from) := ⟨rfl, rfl, rfl, by decide +kernel, rfl, by decide +kernel, by decide +kernel⟩
abbrev s_law_pot : Stmt := top 38
theorem sc_law_pot : FnScope ["_law_script", "_law_k", "_law_seed"] ["_law_script", "_law_k"] (defScope s_law_pot) := ⟨rfl, rfl, rfl, by decide +kernel, rfl, by decide +kernel, by decide +kernel⟩
abbrev s_law_draw : Stmt := top 39
theorem sc_law_draw : FnScope ["_law_pot_here", "_law_many", "_law_digit"] ["_law_pot_here", "_law_many"] (defScope s_law_draw) := ⟨rfl, rfl, rfl, by decide +kernel, rfl, by decide +kernel, by decide +kernel⟩
abbrev s_law_name : Stmt := top 40
theorem sc_law_name : FnScope ["_law_pot_here", "_law_used", "_law_letters", "_law_size", "_law_name_here", "_law_others", "_law_k", "_law_letter", "_law_one"] ["_law_pot_here", "_law_used"] (defScope s_law_name) := ⟨rfl, rfl, rfl, by decide +kernel, rfl, by decide +kernel, by decide +kernel⟩
abbrev s_law_word : Stmt := top 41
theorem sc_law_word : FnScope ["_law_pot_here", "_law_signs", "_law_size", "_law_k"] ["_law_pot_here"] (defScope s_law_word) := ⟨rfl, rfl, rfl, by decide +kernel, rfl, by decide +kernel, by decide +kernel⟩
abbrev s_law_path : Stmt := top 42
theorem sc_law_path : FnScope ["_law_pot_here", "_law_hosts", "_law_k"] ["_law_pot_here"] (defScope s_law_path) := ⟨rfl, rfl, rfl, by decide +kernel, rfl, by decide +kernel, by decide +kernel⟩
abbrev s_law_entry : Stmt := top 43
theorem sc_law_entry : FnScope ["_law_pot_here", "_law_way", "_law_path_here", "_law_last", "_law_cut"] ["_law_pot_here"] (defScope s_law_entry) := ⟨rfl, rfl, rfl, by decide +kernel, rfl, by decide +kernel, by decide +kernel⟩
abbrev s_law_is_name : Stmt := top 44
theorem sc_law_is_name : FnScope ["_law_thing", "_law_letters", "_law_sign"] ["_law_thing"] (defScope s_law_is_name) := ⟨rfl, rfl, rfl, by decide +kernel, rfl, by decide +kernel, by decide +kernel⟩
abbrev s_law_is_word : Stmt := top 45
theorem sc_law_is_word : FnScope ["_law_thing", "_law_signs", "_law_sign"] ["_law_thing"] (defScope s_law_is_word) := ⟨rfl, rfl, rfl, by decide +kernel, rfl, by decide +kernel, by decide +kernel⟩
abbrev s_law_is_whole : Stmt := top 46
theorem sc_law_is_whole : FnScope ["_law_thing", "_law_least", "_law_most"] ["_law_thing", "_law_least", "_law_most"] (defScope s_law_is_whole) := ⟨rfl, rfl, rfl, by decide +kernel, rfl, by decide +kernel, by decide +kernel⟩
abbrev s_law_is_relink : Stmt := top 47
theorem sc_law_is_relink : FnScope ["_law_path_here", "_law_cut", "_law_one"] ["_law_path_here", "_law_cut"] (defScope s_law_is_relink) := ⟨rfl, rfl, rfl, by decide +kernel, rfl, by decide +kernel, by decide +kernel⟩
abbrev s_law_is_entry : Stmt := top 48
theorem sc_law_is_entry : FnScope ["_law_thing"] ["_law_thing"] (defScope s_law_is_entry) := ⟨rfl, rfl, rfl, by decide +kernel, rfl, by decide +kernel, by decide +kernel⟩
abbrev s_law_text : Stmt := top 49
theorem sc_law_text : FnScope ["_law_entry_here", "_law_part"] ["_law_entry_here"] (defScope s_law_text) := ⟨rfl, rfl, rfl, by decide +kernel, rfl, by decide +kernel, by decide +kernel⟩
abbrev s_law_number : Stmt := top 50
theorem sc_law_number : FnScope ["_law_word_here", "_law_digits", "_law_sign"] ["_law_word_here"] (defScope s_law_number) := ⟨rfl, rfl, rfl, by decide +kernel, rfl, by decide +kernel, by decide +kernel⟩
abbrev s_law_read : Stmt := top 51
theorem sc_law_read : FnScope ["_law_thing", "_law_words", "_law_entry_here"] ["_law_thing"] (defScope s_law_read) := ⟨rfl, rfl, rfl, by decide +kernel, rfl, by decide +kernel, by decide +kernel⟩
abbrev s_law_put : Stmt := top 52
theorem sc_law_put : FnScope ["_law_pot_here", "_law_written", "_law_at", "_law_way", "_law_sign"] ["_law_pot_here", "_law_written"] (defScope s_law_put) := ⟨rfl, rfl, rfl, by decide +kernel, rfl, by decide +kernel, by decide +kernel⟩
abbrev s_law_words_changed : Stmt := top 53
theorem sc_law_words_changed : FnScope ["_law_pot_here", "_law_written", "_law_words", "_law_at", "_law_to", "_law_way", "_law_menu"] ["_law_pot_here", "_law_written"] (defScope s_law_words_changed) := ⟨rfl, rfl, rfl, by decide +kernel, rfl, by decide +kernel, by decide +kernel⟩
abbrev s_law_result : Stmt := top 54
theorem sc_law_result : FnScope ["_law_thing", "_law_result_here", "e", "_law_others"] ["_law_thing"] (defScope s_law_result) := ⟨rfl, rfl, rfl, by decide +kernel, rfl, by decide +kernel, by decide +kernel⟩
abbrev s_law_right : Stmt := top 55
theorem sc_law_right : FnScope ["_law_thing", "_law_entry_here", "_law_due"] ["_law_thing"] (defScope s_law_right) := ⟨rfl, rfl, rfl, by decide +kernel, rfl, by decide +kernel, by decide +kernel⟩
abbrev s_law : Stmt := top 56
theorem sc_law : FnScope ["_law_script", "_law_k", "_law_pot_here", "_law_turn", "_law_written", "_law_change", "_law_odd", "_law_numbers", "_law_some", "_law_word_here", "_law_thing"] ["_law_script"] (defScope s_law) := ⟨rfl, rfl, rfl, by decide +kernel, rfl, by decide +kernel, by decide +kernel⟩
end My

namespace My
open PySem PySem.Spec PyProof.Rows L2 Gy Xl Xs Xt
/-! ### the law's numbers: the pot, a draw, a pick -/
/-- the list of two numbers that is drawn from -/
def Rng (H : Hp) (r : Addr) : Prop := ∃ x y : Int, H r = some (.lst [.int x, .int y]) ∧ 0 ≤ x ∧ 0 ≤ y ∧ y < 1099511627776
theorem Rng.ne {H : Hp} {r l : Addr} (h : Rng H r) (hl : H l = none) : l ≠ r := fun z => by
  obtain ⟨x, y, e, _⟩ := h
  rw [← z, hl] at e
  cases e
theorem Rng.upd {H : Hp} {r l : Addr} {o : HO} (h : Rng H r) (hl : H l = none) : Rng (upd H l o) r := by
  obtain ⟨x, y, e, h2⟩ := id h
  exact ⟨x, y, by rw [upd_ne (h.ne hl).symm]; exact e, h2⟩
theorem Rng.upd2 {H : Hp} {r l : Addr} {o : HO} (h : Rng H r) (hl : l ≠ r) : Rng (L2.upd H l o) r := by
  obtain ⟨x, y, e, h2⟩ := id h
  exact ⟨x, y, by rw [upd_ne hl.symm]; exact e, h2⟩
theorem Rng.same {H H' : Hp} {r : Addr} (h : Rng H r) (s : Same H H') : Rng H' r := by
  obtain ⟨x, y, e, h2⟩ := h
  exact ⟨x, y, s _ _ e, h2⟩
section
variable {P : Program} {w : World} {K : PySem.W.Frag} {mg : Str → Option Value} {base : Heap}
def spPot (K : PySem.W.Frag) : Sp := fun vs H Q _ => ∃ (a : Addr) (ns : List Int) (k : Nat), vs = [.ref a, .int (k : Int)] ∧ SqL K H a (ns.map V.int) ∧ k ≤ 100 ∧
  ∀ H' p, Same H H' → H p = none → Rng H' p → Q (.ref p) H'
theorem max_nn (j : Int) : 0 ≤ (if j > 0 then j else 0) := by
  split <;> omega
theorem y_lo (z : Int) (k : Nat) : 0 ≤ z % 2147483587 + 97 * (k : Int) + 5 := by
  have := Int.emod_nonneg z (by decide : (2147483587 : Int) ≠ 0)
  omega
theorem y_hi (z : Int) (k : Nat) (h : k ≤ 100) : z % 2147483587 + 97 * (k : Int) + 5 < 1099511627776 := by
  have := Int.emod_lt_of_pos z (by decide : (0 : Int) < 2147483587)
  omega
theorem ok_pot {f : Addr} {fd : FuncData} (F : Fun K "_law_pot" "_law_pot" s_law_pot f fd) (Y : Bn mg) : FnOk P w K mg base CX0 1 f fd ["_law_script", "_law_k"] (spPot K) := by
  refine F.ok sc_law_pot (fun vs H Q E h => ?_) (fun cdv A outer s H vs Q E hr h => ?_)
  · obtain ⟨a, ns, k, rfl, _⟩ := h
    rfl
  · obtain ⟨a, ns, k, rfl, hS, hk, q⟩ := h
    refine ⟨_, (pss_cons (ps_set (i := 2) sc_law_pot.nd rfl (.inl rfl) (pe_ifExp (pt_cmpR op_lt (pv 1) (pe_callB call_len_seq (by rfl) Y.len PySem.boot_len (pa_cons (pv 0) pa_nil)) (nomark _)) (pe_ix ix_list (pv 0) (pv 1) (fun _ _ => rfl)) (pe_op op_add (pe_op op_mul pe_int (pv 1)) pe_int)))
 (pss_one (ps_ret (pe_lst (pa_cons (pe_callB (call_max2 rfl) (by rfl) Y.max (by decide +kernel) (pa_cons pe_int (pa_cons (pe_op op_sub (pe_callB call_abs (by rfl) Y.abs (by decide +kernel) (pa_cons (pv 2) pa_nil)) (pe_op op_pow pe_int pe_int)) pa_nil))) (pa_cons (pe_op op_add (pe_op op_add (pe_op op_mod (pe_callB call_abs (by rfl) Y.abs (by decide +kernel) (pa_cons (pv 2) pa_nil)) pe_int) (pe_op op_mul pe_int (pv 1))) pe_int) pa_nil)))))), ?_⟩
    refine ⟨_, rfl, _, rfl, a, _, rfl, .inl hS, _, _, rfl, rfl, _, rfl, ite2 (fun c1 => ?A) (fun c1 => ?B)⟩
    case' A =>
      have hk2 : k < ns.length := by
        have := of_decide_eq_true c1
        rw [List.length_map] at this
        omega
      refine ⟨_, rfl, _, rfl, a, _, _, .int ns[k], rfl, rfl, hS, atI_nat (j := k) (by rw [List.getElem?_map, List.getElem?_eq_getElem hk2]; rfl), ?_⟩
    case' B =>
      refine ⟨_, rfl, 7, _, rfl, rfl, .inl ⟨by decide, by decide⟩, _, _, rfl, rfl, ?_⟩
    all_goals
      refine ⟨_, rfl, _, rfl, 10, 18, rfl, rfl, ⟨by decide, by decide, by decide⟩, _, _, rfl, rfl, 0, _, rfl, ?_⟩
      refine ⟨_, rfl, _, rfl, _, _, rfl, rfl, (by decide : (0 : Int) < 2147483587), _, rfl, 97, _, rfl, rfl, .inl ⟨by decide, by decide⟩, _, _, rfl, rfl, _, _, rfl, rfl, ?_⟩
      refine ⟨(by show 2 ≤ sizeLine; decide), fun p hp => ?_⟩
      exact q _ p (same_upd hp) hp ⟨_, _, upd_same, max_nn _, y_lo _ k, y_hi _ k hk⟩
def spDraw : Sp := fun vs H Q _ => ∃ (r : Addr) (m : Int), vs = [.ref r, .int m] ∧ Rng H r ∧ 0 < m ∧ m < 1180591620717411303424 ∧
  ∀ H' d, But r H H' → Rng H' r → 0 ≤ d → d < m → Q (.int d) H'
theorem lg70 {m : Int} (m0 : 0 < m) (m1 : m < 1180591620717411303424) : m.natAbs.log2 < 9000 := by
  have h : m.natAbs < 2 ^ 70 := by
    show m.natAbs < 1180591620717411303424
    omega
  exact Nat.lt_of_lt_of_le ((Nat.log2_lt (by omega)).mpr h) (by decide)
theorem ok_draw {f : Addr} {fd : FuncData} (F : Fun K "_law_draw" "_law_draw" s_law_draw f fd) (Y : Bn mg) : FnOk P w K mg base CX0 1 f fd ["_law_pot_here", "_law_many"] spDraw := by
  refine F.ok sc_law_draw (fun vs H Q E h => ?_) (fun cdv A outer s H vs Q E hr h => ?_)
  · obtain ⟨r, m, rfl, _⟩ := h
    rfl
  · obtain ⟨r, m, rfl, ⟨x, y, hR, x0, y0, y1⟩, m0, m1, q⟩ := h
    refine ⟨_, (pss_cons (ps_if (pt_cmpR op_gt (pe_ix ix_list (pv 0) pe_int (fun _ _ => rfl)) pe_int (nomark _))
 (pss_cons (ps_asg (pe_callB call_divmodW (by rfl) Y.divmod (by decide +kernel) (pa_cons (pe_ix ix_list (pv 0) pe_int (fun _ _ => rfl)) (pa_cons (pv 1) pa_nil))) (pg_tup (by rfl) (pgs_cons (pg_sub (pv 0) pe_int set_list) (pgs_cons (pg_name (i := 2) sc_law_draw.nd rfl (Or.inl rfl)) pgs_nil))))
 (pss_one (ps_ret (pv 2))))
 pss_nil)
 (pss_cons (ps_asg (pe_op op_mod (pe_op op_add (pe_op op_mul (pe_ix ix_list (pv 0) pe_int (fun _ _ => rfl)) pe_int) pe_int) pe_int) (pg_sub (pv 0) pe_int set_list))
 (pss_one (ps_ret (pe_op op_mod (pe_op op_fdiv (pe_op op_mod (pe_op op_mul (pe_ix ix_list (pv 0) pe_int (fun _ _ => rfl)) (pe_ix ix_list (pv 0) pe_int (fun _ _ => rfl))) pe_int) pe_int) (pv 1)))))), ?_⟩
    refine ⟨_, rfl, r, _, 0, .int x, rfl, rfl, SqL.of hR, atI_nat (j := 0) rfl, _, _, rfl, rfl, _, rfl, ite2 (fun c1 => ?_) (fun c1 => ?_)⟩
    · refine ⟨_, rfl, r, _, 0, .int x, rfl, rfl, SqL.of hR, atI_nat (j := 0) rfl, _, rfl, x, m, rfl, ⟨m0, PyProof.noPylong_of_log2 (lg70 m0 m1)⟩, fun p hp => ?_⟩
      have npr : r ≠ p := ne_of_none hR hp
      refine ⟨p, _, rfl, SqT.of upd_same, rfl, _, _, rfl, ?_⟩
      refine ⟨_, rfl, r, _, 0, 0, rfl, rfl, (by rw [upd_ne npr]; exact hR), rfl, ?_⟩
      refine ⟨_, _, rfl, rfl, ?_⟩
      refine ⟨_, rfl, q _ _ ?_ ⟨x / m, y, upd_same, Int.ediv_nonneg x0 (Int.le_of_lt m0), y0, y1⟩ (Int.emod_nonneg _ (by omega)) (Int.emod_lt_of_pos _ m0)⟩
      intro b o nb e
      rw [upd_ne nb, upd_ne (ne_of_none e hp)]
      exact e
    · refine ⟨_, rfl, r, _, 1, .int y, rfl, rfl, SqL.of hR, atI_nat (j := 1) rfl, y, 48271, rfl, rfl, .inl ⟨by omega, by omega⟩, _, _, rfl, rfl, _, _, rfl, rfl, (by decide : (0 : Int) < 2147483647), ?_⟩
      refine ⟨_, rfl, r, _, 1, 1, rfl, rfl, hR, rfl, ?_⟩
      have z0 := Int.emod_nonneg (y * 48271 + 9973) (by decide : (2147483647 : Int) ≠ 0)
      have z1 := Int.emod_lt_of_pos (y * 48271 + 9973) (by decide : (0 : Int) < 2147483647)
      refine ⟨_, rfl, r, _, 1, _, rfl, rfl, SqL.of upd_same, atI_nat (j := 1) rfl, _, rfl, r, _, 1, _, rfl, rfl, SqL.of upd_same, atI_nat (j := 1) rfl, _, _, rfl, rfl, .inl ⟨by omega, by omega⟩, ?_⟩
      refine ⟨_, _, rfl, rfl, (by decide : (0 : Int) < 2147483579), _, 17, rfl, rfl, ⟨by decide, by decide⟩, _, rfl, _, m, rfl, rfl, m0, ?_⟩
      refine q _ _ ?_ ⟨x, _, upd_same, x0, z0, by omega⟩ (Int.emod_nonneg _ (by omega)) (Int.emod_lt_of_pos _ m0)
      intro b o nb e
      rw [upd_ne nb]
      exact e
end
end My

namespace My
open PySem PySem.Spec PyProof.Rows L2 Gy Xl Xs Xt
/-! ### drawn host names: texts of 1 to 8 letters, all different -/
def LET : Str := "abcdefghijklmnopqrstuvwxyz"
/-- a text of 1 to 8 letters -/
def Nm (x : Str) : Prop := 1 ≤ x.length ∧ x.length ≤ 8 ∧ ∀ c ∈ x.cps.toList, c ∈ LET.cps.toList
theorem mem_cat {a b : Str} {c : Nat} (h : c ∈ (a ++ b).cps.toList) : c ∈ a.cps.toList ∨ c ∈ b.cps.toList := by
  have e : (a ++ b).cps.toList = a.cps.toList ++ b.cps.toList := by
    show (a.cps ++ b.cps).toList = _
    rw [Array.toList_append]
  rw [e] at h
  exact List.mem_append.mp h
theorem join_in {p : Nat → Prop} : ∀ ys : List Str, (∀ y ∈ ys, ∀ c ∈ y.cps.toList, p c) → ∀ c ∈ (Str.join "" ys).cps.toList, p c
  | [], _, c, h => by
    have h' : c ∈ ([] : List Nat) := h
    cases h'
  | [y], h, c, hc => h y List.mem_cons_self c hc
  | y :: z :: r, h, c, hc => by
    have hc' : c ∈ (y ++ "" ++ Str.join "" (z :: r)).cps.toList := hc
    rcases mem_cat hc' with hc' | hc'
    · rcases mem_cat hc' with hc' | hc'
      · exact h y List.mem_cons_self c hc'
      · have h' : c ∈ ([] : List Nat) := hc'
        cases h'
    · exact join_in (z :: r) (fun u hu => h u (List.mem_cons_of_mem _ hu)) c hc'
theorem join_len : ∀ ys : List Str, (∀ y ∈ ys, y.length = 1) → (Str.join "" ys).length = ys.length
  | [], _ => rfl
  | [y], h => h y List.mem_cons_self
  | y :: z :: r, h => by
    have ih := join_len (z :: r) fun u hu => h u (List.mem_cons_of_mem _ hu)
    have hy := h y List.mem_cons_self
    show (y ++ "" ++ Str.join "" (z :: r)).length = _
    rw [strLen_append, strLen_append, ih, hy]
    show 1 + 0 + (r.length + 1) = r.length + 1 + 1
    omega
theorem sum_ones : ∀ ys : List Str, (∀ y ∈ ys, y.length = 1) → (ys.map (·.length)).sum ≤ ys.length
  | [], _ => Nat.le_refl _
  | y :: r, h => by
    have h1 := h y List.mem_cons_self
    have h2 := sum_ones r fun z hz => h z (List.mem_cons_of_mem _ hz)
    rw [List.map_cons, List.sum_cons, List.length_cons]
    omega
theorem cut_some (x : Str) (n : Nat) : cutS x none (some (n : Int)) = ⟨(x.cps.toList.take (min n x.length)).toArray⟩ := by
  unfold cutS
  rw [HT.sIx_none, HT.sIx_nat, List.drop_zero, Nat.sub_zero]
/-- the first eight signs of a name with letters behind it -/
theorem nm_cut {x y : Str} (hx : Nm x) (hy : Nm y) : Nm (cutS (x ++ y) none (some 8)) := by
  have e := cut_some (x ++ y) 8
  have l : (x ++ y).length = x.length + y.length := strLen_append x y
  have l2 : (x ++ y).cps.toList.length = (x ++ y).length := Array.length_toList
  obtain ⟨h1, h2, h3⟩ := hx
  obtain ⟨k1, k2, k3⟩ := hy
  rw [show (some 8 : Option Int) = some ((8 : Nat) : Int) from rfl, e]
  refine ⟨?_, ?_, fun c hc => ?_⟩
  · show 1 ≤ ((x ++ y).cps.toList.take (min 8 (x ++ y).length)).toArray.size
    rw [List.size_toArray, List.length_take]
    omega
  · show ((x ++ y).cps.toList.take (min 8 (x ++ y).length)).toArray.size ≤ 8
    rw [List.size_toArray, List.length_take]
    omega
  · have hc' : c ∈ (x ++ y).cps.toList.take (min 8 (x ++ y).length) := by
      simpa using hc
    rcases mem_cat (List.mem_of_mem_take hc') with z | z
    · exact h3 c z
    · exact k3 c z
/-- seven signs of a name and a letter -/
def tl (x : Str) (c : Nat) : Str := cutS x none (some 7) ++ ⟨#[c]⟩
theorem tl_cps (x : Str) (c : Nat) : (tl x c).cps.toList = x.cps.toList.take (min 7 x.length) ++ [c] := by
  unfold tl
  rw [show (some 7 : Option Int) = some ((7 : Nat) : Int) from rfl, cut_some]
  show ((x.cps.toList.take (min 7 x.length)).toArray ++ #[c]).toList = _
  rw [Array.toList_append]
theorem tl_nm {x : Str} {c : Nat} (hx : Nm x) (hc : c ∈ LET.cps.toList) : Nm (tl x c) := by
  have e := tl_cps x c
  have l : (tl x c).length = (tl x c).cps.toList.length := Array.length_toList.symm
  have l2 : x.cps.toList.length = x.length := Array.length_toList
  have l3 : (x.cps.toList.take (min 7 x.length) ++ [c]).length = min 7 x.length + 1 := by
    rw [List.length_append, List.length_take, l2]
    simp
  rw [e, l3] at l
  refine ⟨by omega, by omega, fun d hd => ?_⟩
  rw [e] at hd
  rcases List.mem_append.mp hd with z | z
  · exact hx.2.2 d (List.mem_of_mem_take z)
  · rw [List.mem_singleton.mp z]
    exact hc
theorem tl_inj (x : Str) (c d : Nat) (h : tl x c = tl x d) : c = d := by
  have e : (tl x c).cps.toList = (tl x d).cps.toList := by rw [h]
  rw [tl_cps, tl_cps] at e
  have e2 := List.append_cancel_left e
  injection e2
theorem inV_strs (z : Str) : ∀ xs : List Str, inV (.str z) (xs.map V.str) = decide (z ∈ xs)
  | [] => rfl
  | x :: xs => by
    have ih := inV_strs z xs
    unfold inV at ih ⊢
    rw [List.map_cons, List.any_cons, ih]
    show (x == z || decide (z ∈ xs)) = decide (z ∈ x :: xs)
    by_cases e : x = z
    · subst e
      simp
    · rw [beq_eq_false_iff_ne.mpr e, Bool.false_or]
      congr 1
      rw [List.mem_cons, eq_iff_iff]
      exact ⟨.inr, fun h => h.resolve_left fun u => e u.symm⟩
theorem flat_strs : ∀ xs : List Str, (xs.map V.str).all flatV = true
  | [] => rfl
  | x :: xs => by
    rw [List.map_cons, List.all_cons, flat_strs xs]
    rfl
theorem len_le_of_sub {α : Type} [BEq α] [LawfulBEq α] : ∀ {l m : List α}, l.Nodup → (∀ x ∈ l, x ∈ m) → l.length ≤ m.length
  | [], _, _, _ => Nat.zero_le _
  | x :: l, m, nd, h => by
    rw [List.nodup_cons] at nd
    have hx := h x List.mem_cons_self
    have ih := len_le_of_sub (l := l) (m := m.erase x) nd.2 fun y hy => (List.mem_erase_of_ne (fun e : y = x => nd.1 (by rw [← e]; exact hy))).mpr (h y (List.mem_cons_of_mem _ hy))
    rw [List.length_erase_of_mem hx] at ih
    have : 0 < m.length := List.length_pos_of_mem hx
    rw [List.length_cons]
    omega
theorem nd_map {α β : Type} {f : α → β} (inj : ∀ a b, f a = f b → a = b) : ∀ {l : List α}, l.Nodup → (l.map f).Nodup
  | [], _ => List.nodup_nil
  | x :: l, h => by
    rw [List.nodup_cons] at h
    rw [List.map_cons, List.nodup_cons]
    refine ⟨fun z => ?_, nd_map inj h.2⟩
    obtain ⟨y, hy, e⟩ := List.mem_map.mp z
    exact h.1 (inj _ _ e ▸ hy)
theorem nodup_snoc {α : Type} {xs : List α} {x : α} (h : xs.Nodup) (n : x ∉ xs) : (xs ++ [x]).Nodup := by
  rw [List.nodup_append]
  refine ⟨h, by simp, fun a ha b hb e => n ?_⟩
  rw [List.mem_singleton.mp hb] at e
  rw [← e]
  exact ha
/-- what is tried for a name -/
def triesOf (x : Str) : List Str := x :: LET.cps.toList.map (tl x)
theorem tries_nm {x : Str} (h : Nm x) : ∀ y ∈ triesOf x, Nm y := fun y hy => by
  rcases List.mem_cons.mp hy with rfl | hy
  · exact h
  · obtain ⟨c, hc, rfl⟩ := List.mem_map.mp hy
    exact tl_nm h hc
theorem tries_out {x : Str} {xs : List Str} (h : xs.length < 26) : ∃ z zs, (triesOf x).filter (fun y => decide (y ∉ xs)) = z :: zs := by
  cases e : (triesOf x).filter (fun y => decide (y ∉ xs)) with
  | cons z zs => exact ⟨z, zs, rfl⟩
  | nil =>
    rw [List.filter_eq_nil_iff] at e
    have nd : (LET.cps.toList.map (tl x)).Nodup := nd_map (tl_inj x) (by decide +kernel)
    have le := len_le_of_sub (m := xs) nd fun y hy => by
      have z := e y (List.mem_cons_of_mem _ hy)
      exact Decidable.of_not_not fun w => z (decide_eq_true w)
    rw [List.length_map, show LET.cps.toList.length = 26 by decide +kernel] at le
    omega
theorem dps_strs {K : PySem.W.Frag} {H : Hp} : ∀ xs : List Str, DpAll K H (xs.map V.str) (xs.map PyData.str)
  | [] => .nil
  | x :: xs => .cons (.str x) (dps_strs xs)
theorem nm_ok {x : Str} (h : Nm x) : PyData.strOk x = true := by
  unfold PyData.strOk
  rw [← Array.all_toList, List.all_eq_true]
  intro c hc
  have z : ∀ d ∈ LET.cps.toList, d < 0x110000 := by decide +kernel
  exact decide_eq_true (z c (h.2.2 c hc))
theorem lay_strs : ∀ xs : List Str, (∀ x ∈ xs, Nm x) → PyData.canLayAll0 (xs.map PyData.str) = true
  | [], _ => rfl
  | b :: r, h => by
    show (PyData.strOk b && PyData.canLayAll0 (r.map PyData.str)) = true
    rw [nm_ok (h b List.mem_cons_self), lay_strs r fun x hx => h x (List.mem_cons_of_mem _ hx)]
    rfl
theorem deep_strs : ∀ xs : List Str, PyData.depthAll (xs.map PyData.str) = 0
  | [] => rfl
  | b :: r => by
    show max 0 (PyData.depthAll (r.map PyData.str)) = 0
    rw [deep_strs r]
    rfl
theorem sh_strs (xs : List Str) (h : ∀ x ∈ xs, Nm x) : SeqAt.shaped (.list (xs.map PyData.str)) = true := by
  unfold SeqAt.shaped
  rw [show PyData.canLay0 (.list (xs.map PyData.str)) = true from lay_strs xs h, show PyData.depth (.list (xs.map PyData.str)) = 1 by show PyData.depthAll _ + 1 = 1; rw [deep_strs]]
  decide
end My

namespace My
open PySem PySem.Spec PyProof.Rows L2 Gy Xl Xs Xt
/-! ### texts of some signs -/
def allIn (cs x : Str) : Bool := x.cps.toList.all fun c => decide (c ∈ cs.cps.toList)
def textOf (v : V) (cs : Str) (n : Int) : Bool := match v with
  | .str x => decide ((1 : Int) ≤ (x.length : Int)) && decide ((x.length : Int) ≤ n) && allIn cs x
  | _ => false
/-- a value whose kind is known -/
inductive Kd (K : PySem.W.Frag) (H : Hp) : V → Prop
  | str (x : Str) (h : x.length ≤ sizeLine) : Kd K H (.str x)
  | oth {v : V} {t : String} (ty : TyX K H v (.type t)) (n : kitB t "str" = some false) (no : ∀ x, v ≠ .str x) : Kd K H v
theorem textOf_oth {v : V} (no : ∀ x, v ≠ .str x) (cs : Str) (n : Int) : textOf v cs n = false := by
  cases v with
  | str x => exact absurd rfl (no x)
  | _ => rfl

section
variable {P : Program} {w : World} {K : PySem.W.Frag} {mg : Str → Option Value} {base : Heap}
def spText (K : PySem.W.Frag) : Sp := fun vs H Q _ => ∃ (v : V) (cs : Str) (n : Int), vs = [v, .str cs, .int n] ∧ Kd K H v ∧
  ∀ H', Same H H' → Q (.bl (textOf v cs n)) H'
theorem take_succ_all {l : List Nat} {i c : Nat} (h : l[i]? = some c) (p : Nat → Bool) : (l.take (i + 1)).map p = (l.take i).map p ++ [p c] := by
  rw [List.take_add_one, h, List.map_append]
  rfl
theorem ok_text {f : Addr} {fd : FuncData} (F : Fun K "is_text_of" "is_text_of" s_is_text_of f fd) (Y : Bn mg) :
    FnOk P w K mg base CX0 1 f fd ["value", "characters", "longest"] (spText K) := by
  refine F.ok sc_is_text_of (fun vs H Q E h => ?_) (fun cdv A outer s H vs Q E hr h => ?_)
  · obtain ⟨v, cs, n, rfl, _⟩ := h
    rfl
  · obtain ⟨v, cs, n, rfl, kd, q⟩ := h
    refine ⟨_, (pss_cons (ps_if (PW.pt (pw_or (pt_not (pt_val (pe_callB call_isi (by rfl) Y.isinstance (by decide +kernel) (pa_cons (pv 0) (pa_cons (pe_bltn (v := .ty "str") (by rfl) Y.str (by decide +kernel) rfl) pa_nil))))) (pw_or1 (pt_not (pt_chain op_le op_le pe_int (pe_callB call_len_str (by rfl) Y.len PySem.boot_len (pa_cons (pv 0) pa_nil)) (pv 2))))))
 (pss_one (ps_ret pe_bl))
 pss_nil)
 (pss_one (ps_ret (pe_callB (cr_all rfl) (by rfl) Y.all (by decide +kernel) (pa_cons (pe_lc (own := [("character", 3)]) (g := gName 3) (tt := tYes) rfl sc_is_text_of.nd (pi_str (pv 0)) (blkOk_by (N := ["value", "characters", "longest", "character"]) (sc := defScope s_is_text_of) (by decide +kernel)) (fun _ _ _ _ _ => (pg_name (i := 3) sc_is_text_of.nd rfl (Or.inl rfl))) (fun _ _ _ _ _ => pts_nil) (fun _ _ _ _ _ => (pe_cmpR op_in_sign (pv 3) (pv 1) rfl))) pa_nil))))), ?_⟩
    cases kd with
    | oth ty no nos =>
      refine ⟨v, rfl, v, _, _, _, false, rfl, .ty "str", ty, kit_ty no, _, rfl, ?_⟩
      refine iteT (iteT ?_)
      rw [textOf_oth nos] at q
      exact q _ (Same.refl _)
    | str x hx =>
      refine ⟨_, rfl, _, _, _, _, true, rfl, .ty "str", .base (.str x), kit_ty (by decide +kernel), _, rfl, ?_⟩
      refine iteF ?_
      have e1 : textOf (.str x) cs n = (decide ((1 : Int) ≤ (x.length : Int)) && decide ((x.length : Int) ≤ n) && allIn cs x) := rfl
      refine ⟨_, rfl, _, rfl, hx, 1, _, rfl, rfl, _, rfl, ?_⟩
      refine ite2 (fun c1 => ?_) (fun c1 => ?_)
      · refine ⟨_, rfl, _, _, rfl, rfl, _, rfl, ?_⟩
        cases c2 : decide ((x.length : Int) ≤ n) with
        | false =>
          refine iteT ?_
          rw [c2, Bool.and_false, Bool.false_and] at e1
          rw [e1] at q
          exact q _ (Same.refl _)
        | true =>
          refine iteF ?_
          rw [c1, c2, Bool.true_and, Bool.true_and] at e1
          refine ⟨_, rfl, x, rfl, fun D hD => ?_⟩
          refine lc_it (walk_str (z := x)) (fun i H' => Same H H' ∧ H' D = some (.lst (((x.cps.toList.take i).map fun c => decide (c ∈ cs.cps.toList)).map V.bl)))
            ⟨same_upd hD, upd_same⟩ (fun _ _ _ _ => trivial) ?_ ?_
          · rintro i y H1 H2 hi ⟨sm, hL⟩ ⟨rfl, c, hc, rfl⟩
            refine ⟨rfl, ?_⟩
            dsimp only [tYes]
            refine iteT ?_
            refine ⟨_, rfl, _, rfl, c, cs, rfl, rfl, _, hL, ?_, same_upd2 sm hD, ?_⟩
            · rw [List.length_map, List.length_map, List.length_take]
              refine Nat.lt_of_le_of_lt (Nat.min_le_left _ _) (Nat.lt_of_lt_of_le hi ?_)
              exact hx
            · have hc' : x.cps.toList[i]? = some c := by rw [Array.getElem?_toList]; exact hc
              rw [upd_same, take_succ_all hc', List.map_append]
              rfl
          · rintro H1 ⟨sm, hL⟩
            refine ⟨D, _, rfl, SqL.of hL, ?_⟩
            have e2 : ((x.cps.toList.take x.cps.size).map fun c => decide (c ∈ cs.cps.toList)).all id = allIn cs x := by
              rw [List.take_of_length_le (by rw [Array.length_toList]; exact Nat.le_refl _), List.all_map]
              rfl
            rw [e1] at q
            show Q (.bl (((x.cps.toList.take x.cps.size).map fun c => decide (c ∈ cs.cps.toList)).all id)) H1
            rw [e2]
            exact q _ sm
      · refine ⟨_, rfl, ?_⟩
        refine iteT ?_
        have c1' : decide ((1 : Int) ≤ (x.length : Int)) = false := by
          cases z : decide ((1 : Int) ≤ (x.length : Int)) with
          | false => rfl
          | true => exact absurd z c1
        rw [c1', Bool.false_and, Bool.false_and] at e1
        rw [e1] at q
        exact q _ (Same.refl _)
structure TxtC (mg : Str → Option Value) : Prop where
  lt : ∃ t, mg "LETTERS" = some (.str LET t)
  ln : ∃ t, mg "LONGEST_NAME" = some (.int 8 t)
def spHost (K : PySem.W.Frag) : Sp := fun vs H Q _ => ∃ v : V, vs = [v] ∧ Kd K H v ∧ ∀ H', Same H H' → Q (.bl (textOf v LET 8)) H'
theorem ok_host {f : Addr} {fd : FuncData} (F : Fun K "is_host_name" "is_host_name" s_is_host_name f fd) (C : TxtC mg) (G_is_text_of : Fk P w K mg base CX0 1 "is_text_of" ["value", "characters", "longest"] (spText K)) :
    FnOk P w K mg base CX0 2 f fd ["value"] (spHost K) := by
  obtain ⟨t1, e1⟩ := C.lt
  obtain ⟨t2, e2⟩ := C.ln
  refine F.ok sc_is_host_name (fun vs H Q E h => ?_) (fun cdv A outer s H vs Q E hr h => ?_)
  · obtain ⟨v, rfl, _⟩ := h
    rfl
  · obtain ⟨v, rfl, kd, q⟩ := h
    refine ⟨_, (pss_one (ps_ret (pe_callF G_is_text_of (hr.mono (by decide)) (by rfl) pass0 (pa_cons (pv 0) (pa_cons (pe_glob (v := .str LET) (by rfl) e1 ⟨_, rfl⟩) (pa_cons (pe_glob (v := .int 8) (by rfl) e2 ⟨_, rfl⟩) pa_nil)))))), ?_⟩
    exact ⟨v, rfl, v, LET, 8, rfl, kd, q⟩
def DIG : Str := "0123456789"
def WSG : Str := LET ++ DIG
structure TxtW (mg : Str → Option Value) : Prop where
  dg : ∃ t, mg "DIGITS" = some (.str DIG t)
  ln : ∃ t, mg "LONGEST_WORD" = some (.int 12 t)
def spWord (K : PySem.W.Frag) : Sp := fun vs H Q _ => ∃ v : V, vs = [v] ∧ Kd K H v ∧ ∀ H', Same H H' → Q (.bl (textOf v WSG 12)) H'
theorem ok_word {f : Addr} {fd : FuncData} (F : Fun K "is_word" "is_word" s_is_word f fd) (C : TxtC mg) (D : TxtW mg) (G_is_text_of : Fk P w K mg base CX0 1 "is_text_of" ["value", "characters", "longest"] (spText K)) :
    FnOk P w K mg base CX0 2 f fd ["value"] (spWord K) := by
  obtain ⟨t1, e1⟩ := C.lt
  obtain ⟨t2, e2⟩ := D.dg
  obtain ⟨t3, e3⟩ := D.ln
  refine F.ok sc_is_word (fun vs H Q E h => ?_) (fun cdv A outer s H vs Q E hr h => ?_)
  · obtain ⟨v, rfl, _⟩ := h
    rfl
  · obtain ⟨v, rfl, kd, q⟩ := h
    refine ⟨_, (pss_one (ps_ret (pe_callF G_is_text_of (hr.mono (by decide)) (by rfl) pass0 (pa_cons (pv 0) (pa_cons (pe_op op_add_str (pe_glob (v := .str LET) (by rfl) e1 ⟨_, rfl⟩) (pe_glob (v := .str DIG) (by rfl) e2 ⟨_, rfl⟩)) (pa_cons (pe_glob (v := .int 12) (by rfl) e3 ⟨_, rfl⟩) pa_nil)))))), ?_⟩
    exact ⟨v, rfl, LET, DIG, rfl, rfl, (by decide +kernel), v, WSG, 12, rfl, kd, q⟩
end
end My

namespace My
open PySem PySem.Spec PyProof.Rows L2 Gy Xl Xs Xt
/-! ### what a relink is, over data -/
mutual
/-- few and short parts -/
def sml : PyData → Bool
  | .str x => decide (x.length ≤ 640)
  | .int _ => true
  | .list ds => decide (ds.length ≤ 660) && smls ds
  | .tuple ds => decide (ds.length ≤ 660) && smls ds
  | .dict kvs => kvs.isEmpty
  | .none => true
  | .bool _ => true
def smls : List PyData → Bool
  | [] => true
  | d :: ds => sml d && smls ds
end
theorem smls_mem : ∀ {ds : List PyData} {d : PyData}, smls ds = true → d ∈ ds → sml d = true
  | e :: ds, d, h, m => by
    have h2 : sml e = true ∧ smls ds = true := by simpa only [smls, Bool.and_eq_true] using h
    rcases List.mem_cons.mp m with rfl | m
    · exact h2.1
    · exact smls_mem h2.2 m
def isHost : PyData → Bool
  | .str x => decide ((1 : Int) ≤ (x.length : Int)) && decide ((x.length : Int) ≤ 8) && allIn LET x
  | _ => false
def txts : List PyData → List Str
  | [] => []
  | .str x :: ds => x :: txts ds
  | _ :: ds => txts ds
def isPath : PyData → Bool
  | .tuple ds => decide (3 ≤ ds.length) && (ds.all isHost && decide ((txts ds).Nodup))
  | _ => false
/-- a whole number from 0 on, below another -/
def isIdx (n : Int) : PyData → Bool
  | .int i => decide (0 ≤ i) && decide (i < n)
  | _ => false
theorem isPath_t (ds : List PyData) : isPath (.tuple ds) = (decide (3 ≤ ds.length) && (ds.all isHost && decide ((txts ds).Nodup))) := rfl
theorem isIdx_i (n i : Int) : isIdx n (.int i) = (decide (0 ≤ i) && decide (i < n)) := rfl
def isRel : PyData → Bool
  | .tuple [.tuple ds, c] => isPath (.tuple ds) && isIdx ((ds.length : Int) - 1) c
  | _ => false
theorem txts_all : ∀ {ds : List PyData}, ds.all isHost = true → ds = (txts ds).map PyData.str
  | [], _ => rfl
  | d :: ds, h => by
    have h2 : isHost d = true ∧ ds.all isHost = true := by simpa only [List.all_cons, Bool.and_eq_true] using h
    cases d with
    | str x =>
      show PyData.str x :: ds = PyData.str x :: (txts ds).map PyData.str
      rw [← txts_all h2.2]
    | _ => cases h2.1
section
variable {P : Program} {w : World} {K : PySem.W.Frag} {mg : Str → Option Value} {base : Heap} {H : Hp}
theorem Dns.len : ∀ {vs : List V} {ds : List PyData}, Dns K H vs ds → vs.length = ds.length
  | _, _, .nil => rfl
  | _, _, .cons h t => by rw [List.length_cons, List.length_cons, Dns.len t]
theorem Dns.get : ∀ {vs : List V} {ds : List PyData}, Dns K H vs ds → ∀ {i : Nat} {v : V}, vs[i]? = some v → ∃ d, ds[i]? = some d ∧ Dn K H v d
  | _, _, .nil, i, v, e => by simp at e
  | _, _, .cons h t, 0, v, e => by
    simp at e
    subst e
    exact ⟨_, rfl, h⟩
  | _, _, .cons h t, i + 1, v, e => by
    simp only [List.getElem?_cons_succ] at e ⊢
    exact Dns.get t e
theorem Dns.txts : ∀ {vs : List V} {xs : List Str}, Dns K H vs (xs.map PyData.str) → vs = xs.map V.str
  | _, [], .nil => rfl
  | _, x :: xs, .cons h t => by
    cases h
    rw [Dns.txts t]
    rfl
theorem kd_dn {v : V} {d : PyData} (h : Dn K H v d) (s : sml d = true) : Kd K H v := by
  cases h with
  | non => exact .oth (.base .non) (by decide +kernel) (fun x z => nomatch z)
  | bl b => exact .oth (.base (.bl b)) (by decide +kernel) (fun x z => nomatch z)
  | int i => exact .oth (.base (.int i)) (by decide +kernel) (fun x z => nomatch z)
  | str x =>
    have : x.length ≤ 640 := by simpa only [sml, decide_eq_true_eq] using s
    exact .str x (le200 (by omega))
  | lst e _ => exact .oth (.base (.lst e)) (by decide +kernel) (fun x z => nomatch z)
  | tup e _ => exact .oth e.ty (by decide +kernel) (fun x z => nomatch z)
  | dic e => exact .oth (.base (.dK e)) (by decide +kernel) (fun x z => nomatch z)
theorem host_dn {v : V} {d : PyData} (h : Dn K H v d) : textOf v LET 8 = isHost d := by
  cases h <;> rfl
/-- the kind of a value, and whether it is a tuple -/
theorem tup_or {v : V} {d : PyData} (h : Dn K H v d) : (∃ a xs ds, v = .ref a ∧ d = .tuple ds ∧ Tz H a xs ∧ Dns K H xs ds) ∨ ((∀ ds, d ≠ .tuple ds) ∧ ∃ t, TyX K H v (.type t) ∧ kitB t "tuple" = some false) := by
  cases h with
  | non => exact .inr ⟨(fun _ z => nomatch z), _, .base .non, by decide +kernel⟩
  | bl b => exact .inr ⟨(fun _ z => nomatch z), _, .base (.bl b), by decide +kernel⟩
  | int i => exact .inr ⟨(fun _ z => nomatch z), _, .base (.int i), by decide +kernel⟩
  | str x => exact .inr ⟨(fun _ z => nomatch z), _, .base (.str x), by decide +kernel⟩
  | lst e _ => exact .inr ⟨(fun _ z => nomatch z), _, .base (.lst e), by decide +kernel⟩
  | tup e t => exact .inl ⟨_, _, _, rfl, rfl, e, t⟩
  | dic e => exact .inr ⟨(fun _ z => nomatch z), _, .base (.dK e), by decide +kernel⟩
/-- whether it is a whole number, or True, False -/
theorem int_or {v : V} {d : PyData} (h : Dn K H v d) : (∃ i, v = .int i ∧ d = .int i) ∨ (∃ b, v = .bl b ∧ d = .bool b) ∨ ((∀ i, d ≠ .int i) ∧ ∃ t, TyX K H v (.type t) ∧ kitB t "int" = some false) := by
  cases h with
  | non => exact .inr (.inr ⟨(fun _ z => nomatch z), _, .base .non, by decide +kernel⟩)
  | bl b => exact .inr (.inl ⟨b, rfl, rfl⟩)
  | int i => exact .inl ⟨i, rfl, rfl⟩
  | str x => exact .inr (.inr ⟨(fun _ z => nomatch z), _, .base (.str x), by decide +kernel⟩)
  | lst e _ => exact .inr (.inr ⟨(fun _ z => nomatch z), _, .base (.lst e), by decide +kernel⟩)
  | tup e _ => exact .inr (.inr ⟨(fun _ z => nomatch z), _, e.ty, by decide +kernel⟩)
  | dic e => exact .inr (.inr ⟨(fun _ z => nomatch z), _, .base (.dK e), by decide +kernel⟩)
def spPath (K : PySem.W.Frag) : Sp := fun vs H Q _ => ∃ (v : V) (d : PyData), vs = [v] ∧ Dn K H v d ∧ sml d = true ∧ ∀ H', Same H H' → Q (.bl (isPath d)) H'
theorem ok_path {f : Addr} {fd : FuncData} (F : Fun K "is_relink_path" "is_relink_path" s_is_relink_path f fd) (Y : Bn mg) (sp : ∃ t, mg "SHORTEST_PATH" = some (.int 3 t))
    (G_is_host_name : Fk P w K mg base CX0 2 "is_host_name" ["value"] (spHost K)) : FnOk P w K mg base CX0 3 f fd ["value"] (spPath K) := by
  obtain ⟨t1, e1⟩ := sp
  refine F.ok sc_is_relink_path (fun vs H Q E h => ?_) (fun cdv A outer s H vs Q E hr h => ?_)
  · obtain ⟨v, d, rfl, _⟩ := h
    rfl
  · obtain ⟨v, d, rfl, dn, sm, q⟩ := h
    refine ⟨_, (pss_cons (ps_if (PW.pt (pw_or (pt_not (pt_val (pe_callB call_isi (by rfl) Y.isinstance (by decide +kernel) (pa_cons (pv 0) (pa_cons (pe_bltn (v := .ty "tuple") (by rfl) Y.tuple (by decide +kernel) rfl) pa_nil))))) (pw_or1 (pt_cmpR op_lt (pe_callB call_len_seq (by rfl) Y.len PySem.boot_len (pa_cons (pv 0) pa_nil)) (pe_glob (v := .int 3) (by rfl) e1 ⟨_, rfl⟩) (nomark _)))))
 (pss_one (ps_ret pe_bl))
 pss_nil)
 (pss_one (ps_ret (pe_and (pe_callB (cr_all rfl) (by rfl) Y.all (by decide +kernel) (pa_cons (pe_lc (own := [("host", 1)]) (g := gName 1) (tt := tYes) rfl sc_is_relink_path.nd (pi_tup (pv 0)) (blkOk_by (N := ["value", "host"]) (sc := defScope s_is_relink_path) (by decide +kernel)) (fun _ _ _ _ _ => (pg_name (i := 1) sc_is_relink_path.nd rfl (Or.inl rfl))) (fun _ _ _ _ _ => pts_nil) (fun _ _ _ _ _ => (pe_callF G_is_host_name (hr.mono (by decide)) (by rfl) pass0 (pa_cons (pv 1) pa_nil)))) pa_nil)) (pe_one (pe_cmpR op_eq (pe_lenTexts (by rfl) Y.len (by rfl) Y.set (pv 0)) (pe_callB call_len_seq (by rfl) Y.len PySem.boot_len (pa_cons (pv 0) pa_nil)) (nomark _))))))), ?_⟩
    rcases tup_or dn with ⟨a, xs, ds, rfl, rfl, ha, hd⟩ | ⟨no, t, ty, kt⟩
    · have sm2 : ds.length ≤ 660 ∧ smls ds = true := by simpa only [sml, Bool.and_eq_true, decide_eq_true_eq] using sm
      have el := Dns.len hd
      refine ⟨_, rfl, _, _, _, _, true, rfl, .ty "tuple", ha.ty, kit_ty (by decide +kernel), _, rfl, iteF ?_⟩
      refine ⟨_, rfl, a, _, rfl, .inr (ha.sq), _, 3, rfl, rfl, _, rfl, ite2 (fun c => ?_) (fun c => ?_)⟩
      · have c' := of_decide_eq_true c
        have z : isPath (.tuple ds) = false := by
          rw [isPath_t]
          rw [decide_eq_false (show ¬ 3 ≤ ds.length by omega), Bool.false_and]
        rw [z] at q
        exact q _ (Same.refl _)
      · have c' : ¬ (xs.length : Int) < 3 := fun z => c (decide_eq_true z)
        refine ⟨_, rfl, a, rfl, ⟨_, ha.sq⟩, fun D hD => ?_⟩
        refine lc_it (walk_tup (K := K) (a := a) (xs := xs)) (fun i H' => Same H H' ∧ H' D = some (.lst (((ds.take i).map isHost).map V.bl))) ⟨same_upd hD, upd_same⟩ (fun i H' _ h => (ha.same h.1).sq) ?_ ?_
        · rintro i y H1 H2 hi ⟨s1, hL⟩ ⟨rfl, hy⟩
          obtain ⟨di, hdi, dni⟩ := Dns.get hd hy
          refine ⟨rfl, ?_⟩
          dsimp only [tYes]
          refine iteT ?_
          refine ⟨_, rfl, y, rfl, kd_dn (dni.same s1) (smls_mem sm2.2 (List.mem_of_getElem? hdi)), fun H3 s3 => ?_⟩
          refine ⟨_, s3 _ _ hL, ?_, same_upd2 (s1.trans s3) hD, ?_⟩
          · rw [List.length_map, List.length_map, List.length_take]
            exact small200 (by omega)
          · rw [upd_same, host_dn dni, List.take_add_one, hdi, List.map_append, List.map_append]
            rfl
        · rintro H1 ⟨s1, hL⟩
          rw [el, List.take_of_length_le (Nat.le_refl _)] at hL
          refine ⟨D, _, rfl, SqL.of hL, _, rfl, ite2 (fun c1 => ?_) (fun c1 => ?_)⟩
          · rw [List.all_map] at c1
            have c2 : ds.all isHost = true := c1
            have e := txts_all c2
            have ha1 := ha.same s1
            have ex : xs = (txts ds).map V.str := by
              rw [e] at hd
              exact Dns.txts hd
            have el2 : xs.length = (txts ds).length := by rw [ex, List.length_map]
            refine ⟨_, rfl, a, txts ds, rfl, (by rw [← ex]; exact ha1.sq), (by omega), _, rfl, a, _, rfl, .inr (ha1.sq), rfl, ?_⟩
            have z : isPath (.tuple ds) = decide (V.int ((numd (txts ds) (txts ds).length : Nat) : Int) = V.int (xs.length : Int)) := by
              rw [isPath_t]
              rw [c2, decide_eq_true (show 3 ≤ ds.length by omega), Bool.true_and, Bool.true_and]
              congr 1
              have nf := numd_full (txts ds) (txts ds).length (Nat.le_refl _)
              rw [List.take_of_length_le (Nat.le_refl _)] at nf
              rw [← nf, eq_iff_iff, el2]
              refine ⟨fun z => by rw [z], fun z => ?_⟩
              injection z with z
              omega
            rw [← z]
            exact q _ s1
          · rw [List.all_map] at c1
            have c2 : ds.all isHost = false := Bool.eq_false_iff.mpr c1
            have z : isPath (.tuple ds) = false := by
              rw [isPath_t]
              rw [c2, Bool.false_and, Bool.and_false]
            rw [z] at q
            exact q _ s1
    · refine ⟨v, rfl, v, _, _, _, false, rfl, .ty "tuple", ty, kit_ty kt, _, rfl, ?_⟩
      refine iteT (iteT ?_)
      have z : isPath d = false := by
        cases d with
        | tuple ds => exact absurd rfl (no ds)
        | _ => rfl
      rw [z] at q
      exact q _ (Same.refl _)
/-! ### whole numbers, the cut -/
/-- a whole number from another on -/
def isFrom (n : Int) : PyData → Bool
  | .int i => decide (n ≤ i)
  | _ => false
def spFrom (K : PySem.W.Frag) : Sp := fun vs H Q _ => ∃ (v : V) (n : Int) (d : PyData), vs = [v, .int n] ∧ Dn K H v d ∧ Q (.bl (isFrom n d)) H
theorem ok_from {f : Addr} {fd : FuncData} (F : Fun K "is_integer_from" "is_integer_from" s_is_integer_from f fd) (Y : Bn mg) : FnOk P w K mg base CX0 1 f fd ["value", "least"] (spFrom K) := by
  refine F.ok sc_is_integer_from (fun vs H Q E h => ?_) (fun cdv A outer s H vs Q E hr h => ?_)
  · obtain ⟨v, n, d, rfl, _⟩ := h
    rfl
  · obtain ⟨v, n, d, rfl, dn, q⟩ := h
    refine ⟨_, (pss_one (ps_ret (pe_and (pe_callB call_isi (by rfl) Y.isinstance (by decide +kernel) (pa_cons (pv 0) (pa_cons (pe_bltn (v := .ty "int") (by rfl) Y.int (by decide +kernel) rfl) pa_nil))) (pe_and (pe_not (pe_callB call_isi (by rfl) Y.isinstance (by decide +kernel) (pa_cons (pv 0) (pa_cons (pe_bltn (v := .ty "bool") (by rfl) Y.bool (by decide +kernel) rfl) pa_nil)))) (pe_one (pe_cmpR op_ge (pv 0) (pv 1) (nomark _))))))), ?_⟩
    rcases int_or dn with ⟨i, rfl, rfl⟩ | ⟨b, rfl, rfl⟩ | ⟨no, t, ty, kt⟩
    · refine ⟨_, rfl, _, _, _, _, true, rfl, .ty "int", .base (.int i), kit_ty (by decide +kernel), _, rfl, iteT ?_⟩
      refine ⟨_, rfl, _, _, _, _, false, rfl, .ty "bool", .base (.int i), kit_ty (by decide +kernel), _, rfl, _, rfl, iteT ?_⟩
      exact ⟨_, rfl, _, rfl, _, _, rfl, rfl, q⟩
    · refine ⟨_, rfl, _, _, _, _, true, rfl, .ty "int", .base (.bl b), kit_ty (by decide +kernel), _, rfl, iteT ?_⟩
      refine ⟨_, rfl, _, _, _, _, true, rfl, .ty "bool", .base (.bl b), kit_ty (by decide +kernel), _, rfl, _, rfl, iteF ?_⟩
      exact q
    · refine ⟨v, rfl, v, _, _, _, false, rfl, .ty "int", ty, kit_ty kt, _, rfl, iteF ?_⟩
      have z : isFrom n d = false := by
        cases d with
        | int i => exact absurd rfl (no i)
        | _ => rfl
      rw [z] at q
      exact q
def spIdx (K : PySem.W.Frag) : Sp := fun vs H Q _ => ∃ (v : V) (n : Int) (d : PyData), vs = [v, .int n] ∧ Dn K H v d ∧ Q (.bl (isIdx n d)) H
theorem ok_idx {f : Addr} {fd : FuncData} (F : Fun K "is_index" "is_index" s_is_index f fd) (G_is_integer_from : Fk P w K mg base CX0 1 "is_integer_from" ["value", "least"] (spFrom K)) : FnOk P w K mg base CX0 2 f fd ["value", "size"] (spIdx K) := by
  refine F.ok sc_is_index (fun vs H Q E h => ?_) (fun cdv A outer s H vs Q E hr h => ?_)
  · obtain ⟨v, n, d, rfl, _⟩ := h
    rfl
  · obtain ⟨v, n, d, rfl, dn, q⟩ := h
    refine ⟨_, (pss_one (ps_ret (pe_and (pe_callF G_is_integer_from (hr.mono (by decide)) (by rfl) pass0 (pa_cons (pv 0) (pa_cons pe_int pa_nil))) (pe_one (pe_cmpR op_lt (pv 0) (pv 1) (nomark _)))))), ?_⟩
    refine ⟨_, rfl, v, 0, d, rfl, dn, _, rfl, ite2 (fun c => ?_) (fun c => ?_)⟩
    · cases d with
      | int i =>
        cases dn
        refine ⟨_, rfl, _, rfl, _, _, rfl, rfl, ?_⟩
        have z : isIdx n (.int i) = decide (i < n) := by
          rw [isIdx_i]
          have c' : decide ((0 : Int) ≤ i) = true := c
          rw [c', Bool.true_and]
        rw [z] at q
        exact q
      | _ => cases c
    · have z : isIdx n d = false := by
        cases d with
        | int i =>
          rw [isIdx_i]
          have c' : decide ((0 : Int) ≤ i) = false := Bool.eq_false_iff.mpr c
          rw [c', Bool.false_and]
        | _ => rfl
      rw [z] at q
      exact q
def spCut (K : PySem.W.Frag) : Sp := fun vs H Q _ => ∃ (a : Addr) (xs : List V) (v : V) (d : PyData), vs = [.ref a, v] ∧ Tz H a xs ∧ Dn K H v d ∧ Q (.bl (isIdx ((xs.length : Int) - 1) d)) H
theorem ok_cut {f : Addr} {fd : FuncData} (F : Fun K "is_cut_of" "is_cut_of" s_is_cut_of f fd) (Y : Bn mg) (G_is_index : Fk P w K mg base CX0 2 "is_index" ["value", "size"] (spIdx K)) : FnOk P w K mg base CX0 3 f fd ["path", "value"] (spCut K) := by
  refine F.ok sc_is_cut_of (fun vs H Q E h => ?_) (fun cdv A outer s H vs Q E hr h => ?_)
  · obtain ⟨a, xs, v, d, rfl, _⟩ := h
    rfl
  · obtain ⟨a, xs, v, d, rfl, ha, dn, q⟩ := h
    refine ⟨_, (pss_one (ps_ret (pe_callF G_is_index (hr.mono (by decide)) (by rfl) pass0 (pa_cons (pv 1) (pa_cons (pe_op op_sub (pe_callB call_len_seq (by rfl) Y.len PySem.boot_len (pa_cons (pv 0) pa_nil)) pe_int) pa_nil))))), ?_⟩
    exact ⟨_, rfl, _, rfl, a, _, rfl, .inr ha.sq, _, _, rfl, rfl, v, _, d, rfl, dn, q⟩
/-! ### is_relink -/
def spRel (K : PySem.W.Frag) : Sp := fun vs H Q _ => ∃ (v : V) (d : PyData), vs = [v] ∧ Dn K H v d ∧ sml d = true ∧ ∀ H', Same H H' → Q (.bl (isRel d)) H'
theorem isRel_2 (p c : PyData) : isRel (.tuple [p, c]) = (isPath p && (match p with | .tuple ds => isIdx ((ds.length : Int) - 1) c | _ => false)) := by
  cases p <;> rfl
theorem isRel_n {ds : List PyData} (h : ds.length ≠ 2) : isRel (.tuple ds) = false := by
  match ds, h with
  | [], _ => rfl
  | [p], _ => cases p <;> rfl
  | p :: c :: e :: ds, _ => cases p <;> rfl
  | [p, c], h => exact absurd rfl h
theorem ok_rel {f : Addr} {fd : FuncData} (F : Fun K "is_relink" "is_relink" s_is_relink f fd) (Y : Bn mg) (G_is_relink_path : Fk P w K mg base CX0 3 "is_relink_path" ["value"] (spPath K)) (G_is_cut_of : Fk P w K mg base CX0 3 "is_cut_of" ["path", "value"] (spCut K)) :
    FnOk P w K mg base CX0 4 f fd ["value"] (spRel K) := by
  refine F.ok sc_is_relink (fun vs H Q E h => ?_) (fun cdv A outer s H vs Q E hr h => ?_)
  · obtain ⟨v, d, rfl, _⟩ := h
    rfl
  · obtain ⟨v, d, rfl, dn, sm, q⟩ := h
    refine ⟨_, (pss_cons (ps_if (PW.pt (pw_or (pt_not (pt_val (pe_callB call_isi (by rfl) Y.isinstance (by decide +kernel) (pa_cons (pv 0) (pa_cons (pe_bltn (v := .ty "tuple") (by rfl) Y.tuple (by decide +kernel) rfl) pa_nil))))) (pw_or1 (pt_cmpR op_ne (pe_callB call_len_seq (by rfl) Y.len PySem.boot_len (pa_cons (pv 0) pa_nil)) pe_int (nomark _)))))
 (pss_one (ps_ret pe_bl))
 pss_nil)
 (pss_cons (ps_asg (pv 0) (pg_tup (by rfl) (pgs_cons (pg_name (i := 1) sc_is_relink.nd rfl (Or.inl rfl)) (pgs_cons (pg_name (i := 2) sc_is_relink.nd rfl (Or.inl rfl)) pgs_nil))))
 (pss_one (ps_ret (pe_and (pe_callF G_is_relink_path (hr.mono (by decide)) (by rfl) pass0 (pa_cons (pv 1) pa_nil)) (pe_one (pe_callF G_is_cut_of (hr.mono (by decide)) (by rfl) pass0 (pa_cons (pv 1) (pa_cons (pv 2) pa_nil))))))))), ?_⟩
    rcases tup_or dn with ⟨a, xs, ds, rfl, rfl, ha, hd⟩ | ⟨no, t, ty, kt⟩
    · have sm2 : ds.length ≤ 660 ∧ smls ds = true := by simpa only [sml, Bool.and_eq_true, decide_eq_true_eq] using sm
      have el := Dns.len hd
      refine ⟨_, rfl, _, _, _, _, true, rfl, .ty "tuple", ha.ty, kit_ty (by decide +kernel), _, rfl, iteF ?_⟩
      refine ⟨_, rfl, a, _, rfl, .inr (ha.sq), rfl, _, rfl, ite2 (fun c => ?_) (fun c => ?_)⟩
      · have c' : ds.length ≠ 2 := fun z => by
          rw [decide_eq_true (show V.int (xs.length : Int) = V.int 2 by rw [el, z]; rfl)] at c
          cases c
        rw [isRel_n c'] at q
        exact q _ (Same.refl _)
      · have c' : xs.length = 2 := by
          have z : V.int (xs.length : Int) = V.int 2 := Decidable.of_not_not fun z => c (by rw [decide_eq_false z]; rfl)
          injection z with z
          omega
        obtain ⟨p, c0, rfl⟩ : ∃ p c0, xs = [p, c0] := by
          match xs, c' with
          | [p, c0], _ => exact ⟨p, c0, rfl⟩
        cases hd with
        | @cons _ _ dp _ h1 hd =>
        cases hd with
        | @cons _ _ dc _ h2 hd =>
          cases hd
          have m1 : sml dp = true := smls_mem sm2.2 List.mem_cons_self
          rw [isRel_2] at q
          refine ⟨_, rfl, a, _, rfl, ha.sq, rfl, _, _, rfl, _, _, rfl, rfl, ?_⟩
          refine ⟨_, rfl, p, dp, rfl, h1, m1, fun H1 s1 => ⟨_, rfl, ite2 (fun c1 => ?_) (fun c1 => ?_)⟩⟩
          · rw [c1, Bool.true_and] at q
            rcases tup_or h1 with ⟨b, ys, es, rfl, rfl, hb, hes⟩ | ⟨no, _⟩
            · have el2 := Dns.len hes
              refine ⟨_, rfl, _, rfl, b, ys, c0, dc, rfl, hb.same s1, h2.same s1, ?_⟩
              rw [el2]
              exact q _ s1
            · cases dp with
              | tuple es => exact absurd rfl (no es)
              | _ => cases c1
          · rw [Bool.eq_false_iff.mpr c1, Bool.false_and] at q
            exact q _ s1
    · refine ⟨v, rfl, v, _, _, _, false, rfl, .ty "tuple", ty, kit_ty kt, _, rfl, ?_⟩
      refine iteT (iteT ?_)
      have z : isRel d = false := by
        cases d with
        | tuple ds => exact absurd rfl (no ds)
        | _ => rfl
      rw [z] at q
      exact q _ (Same.refl _)
end
end My

namespace My
open PySem PySem.Spec PyProof.Rows L2 Gy Xl Xs Xt
/-! ### control items: their kinds, which of them a host receives, the step -/
def KINDS : List Str := ["ask", "no", "yes", "go", "back"]
def isKind : PyData → Bool
  | .str x => decide (x ∈ KINDS)
  | _ => false
/-- the written tuple of the kinds -/
def KindsAt (o : Obj) : Prop := ∃ (its : Array Value) (n : Nat), o.cls = .type "tuple" ∧ o.data = .seq its n ∧ its.size ≤ sizeLine ∧ Vals (KINDS.map V.str) its.toList
structure TxtK (K : PySem.W.Frag) (mg : Str → Option Value) : Prop where
  ex : ∃ (a : Addr) (o : Obj), mg "CONTROL_KINDS" = some (.ref a) ∧ K.lookup a = some o ∧ KindsAt o
/-- whether a value is a text -/
theorem str_or {K : PySem.W.Frag} {H : Hp} {v : V} {d : PyData} (h : Dn K H v d) : (∃ x, v = .str x ∧ d = .str x) ∨ ((∀ x, d ≠ .str x) ∧ ∃ t, TyX K H v (.type t) ∧ kitB t "str" = some false) := by
  cases h with
  | non => exact .inr ⟨(fun _ z => nomatch z), _, .base .non, by decide +kernel⟩
  | bl b => exact .inr ⟨(fun _ z => nomatch z), _, .base (.bl b), by decide +kernel⟩
  | int i => exact .inr ⟨(fun _ z => nomatch z), _, .base (.int i), by decide +kernel⟩
  | str x => exact .inl ⟨x, rfl, rfl⟩
  | lst e _ => exact .inr ⟨(fun _ z => nomatch z), _, .base (.lst e), by decide +kernel⟩
  | tup e t => exact .inr ⟨(fun _ z => nomatch z), _, e.ty, by decide +kernel⟩
  | dic e => exact .inr ⟨(fun _ z => nomatch z), _, .base (.dK e), by decide +kernel⟩
section
variable {P : Program} {w : World} {K : PySem.W.Frag} {mg : Str → Option Value} {base : Heap} {H : Hp}
def spKind (K : PySem.W.Frag) : Sp := fun vs H Q _ => ∃ (v : V) (d : PyData), vs = [v] ∧ Dn K H v d ∧ Q (.bl (isKind d)) H
theorem ok_kind {f : Addr} {fd : FuncData} (F : Fun K "is_control_kind" "is_control_kind" s_is_control_kind f fd) (Y : Bn mg) (T : TxtK K mg) : FnOk P w K mg base CX0 1 f fd ["value"] (spKind K) := by
  obtain ⟨ck, o, gm, lk, its, n, o1, o2, o3, o4⟩ := T.ex
  refine F.ok sc_is_control_kind (fun vs H Q E h => ?_) (fun cdv A outer s H vs Q E hr h => ?_)
  · obtain ⟨v, d, rfl, _⟩ := h
    rfl
  · obtain ⟨v, d, rfl, dn, q⟩ := h
    refine ⟨_, (pss_one (ps_ret (pe_and (pe_callB call_isi (by rfl) Y.isinstance (by decide +kernel) (pa_cons (pv 0) (pa_cons (pe_bltn (v := .ty "str") (by rfl) Y.str (by decide +kernel) rfl) pa_nil))) (pe_one (pe_cmpR op_in_seq (pv 0) (pe_glob (v := .ref ck) (by rfl) gm rfl) rfl))))), ?_⟩
    rcases str_or dn with ⟨x, rfl, rfl⟩ | ⟨no, t, ty, kt⟩
    · refine ⟨_, rfl, _, _, _, _, true, rfl, .ty "str", .base (.str x), kit_ty (by decide +kernel), _, rfl, iteT ?_⟩
      refine ⟨_, rfl, ck, _, rfl, .inr (.inr ⟨o, its, n, lk, o1, o2, o3, o4⟩), rfl, flat_strs _, ?_⟩
      show Q (.bl (inV (.str x) (KINDS.map V.str))) H
      rw [inV_strs]
      exact q
    · refine ⟨v, rfl, v, _, _, _, false, rfl, .ty "str", ty, kit_ty kt, _, rfl, iteF ?_⟩
      have z : isKind d = false := by
        cases d with
        | str x => exact absurd rfl (no x)
        | _ => rfl
      rw [z] at q
      exact q
end
end My

namespace My
open PySem PySem.Spec PyProof.Rows L2 Gy Xl Xs Xt
/-! ### items, over data -/
def isWord : PyData → Bool
  | .str x => decide ((1 : Int) ≤ (x.length : Int)) && decide ((x.length : Int) ≤ 12) && allIn WSG x
  | _ => false
def isMsg : List PyData → Bool
  | [w, x, b] => isHost w && (isWord x && isIdx 2 b)
  | _ => false
def isItem : PyData → Bool
  | .tuple (.str k :: ds) => if k = "message" then isMsg ds else if k = "bye" then ds.isEmpty else decide (k ∈ KINDS) && isRel (.tuple ds)
  | _ => false
theorem word_dn {K : PySem.W.Frag} {H : Hp} {v : V} {d : PyData} (h : Dn K H v d) : textOf v WSG 12 = isWord d := by
  cases h <;> rfl
theorem isMsg_n {ds : List PyData} (h : ds.length ≠ 3) : isMsg ds = false := by
  match ds, h with
  | [], _ => rfl
  | [a], _ => rfl
  | [a, b], _ => rfl
  | [a, b, c], h => exact absurd rfl h
  | a :: b :: c :: d :: ds, _ => rfl
theorem cut1 (x : V) (xs : List V) : cutV (x :: xs) (some 1) none = xs := by
  unfold cutV
  rw [show (some 1 : Option Int) = some ((1 : Nat) : Int) from rfl, HT.sIx_nat, HT.sIx_none, List.length_cons, show min 1 (xs.length + 1) = 1 by omega]
  show (List.drop 0 xs).take _ = _
  rw [List.drop_zero, List.take_of_length_le (by omega)]
structure TxtI (mg : Str → Option Value) : Prop where
  ms : ∃ t, mg "MESSAGE" = some (.str "message" t)
  by_ : ∃ t, mg "BYE" = some (.str "bye" t)
  bt : ∃ t, mg "BITS" = some (.int 2 t)
section
variable {P : Program} {w : World} {K : PySem.W.Frag} {mg : Str → Option Value} {base : Heap} {H : Hp}
def spMsg (K : PySem.W.Frag) : Sp := fun vs H Q _ => ∃ (a : Addr) (xs : List V) (ds : List PyData), vs = [.ref a] ∧ Tz H a xs ∧ Dns K H xs ds ∧ smls ds = true ∧ ∀ H', Same H H' → Q (.bl (isMsg ds)) H'
theorem ok_msg {f : Addr} {fd : FuncData} (F : Fun K "are_message_parts" "are_message_parts" s_are_message_parts f fd) (Y : Bn mg) (T : TxtI mg) (G_is_host_name : Fk P w K mg base CX0 2 "is_host_name" ["value"] (spHost K)) (G_is_word : Fk P w K mg base CX0 2 "is_word" ["value"] (spWord K))
    (G_is_index : Fk P w K mg base CX0 2 "is_index" ["value", "size"] (spIdx K)) : FnOk P w K mg base CX0 3 f fd ["parts"] (spMsg K) := by
  obtain ⟨t1, e1⟩ := T.bt
  refine F.ok sc_are_message_parts (fun vs H Q E h => ?_) (fun cdv A outer s H vs Q E hr h => ?_)
  · obtain ⟨a, xs, ds, rfl, _⟩ := h
    rfl
  · obtain ⟨a, xs, ds, rfl, ha, hd, sm, q⟩ := h
    have el := Dns.len hd
    refine ⟨_, (pss_cons (ps_if (pt_cmpR op_ne (pe_callB call_len_seq (by rfl) Y.len PySem.boot_len (pa_cons (pv 0) pa_nil)) pe_int (nomark _))
 (pss_one (ps_ret pe_bl))
 pss_nil)
 (pss_cons (ps_asg (pv 0) (pg_tup (by rfl) (pgs_cons (pg_name (i := 1) sc_are_message_parts.nd rfl (Or.inl rfl)) (pgs_cons (pg_name (i := 2) sc_are_message_parts.nd rfl (Or.inl rfl)) (pgs_cons (pg_name (i := 3) sc_are_message_parts.nd rfl (Or.inl rfl)) pgs_nil)))))
 (pss_one (ps_ret (pe_and (pe_callF G_is_host_name (hr.mono (by decide)) (by rfl) pass0 (pa_cons (pv 1) pa_nil)) (pe_and (pe_callF G_is_word (hr.mono (by decide)) (by rfl) pass0 (pa_cons (pv 2) pa_nil)) (pe_one (pe_callF G_is_index (hr.mono (by decide)) (by rfl) pass0 (pa_cons (pv 3) (pa_cons (pe_glob (v := .int 2) (by rfl) e1 ⟨_, rfl⟩) pa_nil)))))))))), ?_⟩
    refine ⟨_, rfl, a, _, rfl, .inr ha.sq, rfl, _, rfl, ite2 (fun c => ?_) (fun c => ?_)⟩
    · have c' : ds.length ≠ 3 := fun z => by
        rw [decide_eq_true (show V.int (xs.length : Int) = V.int 3 by rw [el, z]; rfl)] at c
        cases c
      rw [isMsg_n c'] at q
      exact q _ (Same.refl _)
    · have c' : xs.length = 3 := by
        have z : V.int (xs.length : Int) = V.int 3 := Decidable.of_not_not fun z => c (by rw [decide_eq_false z]; rfl)
        injection z with z
        omega
      obtain ⟨x, y, z, rfl⟩ : ∃ x y z, xs = [x, y, z] := by
        match xs, c' with
        | [x, y, z], _ => exact ⟨x, y, z, rfl⟩
      cases hd with
      | @cons _ _ dx _ h1 hd =>
      cases hd with
      | @cons _ _ dy _ h2 hd =>
      cases hd with
      | @cons _ _ dz _ h3 hd =>
        cases hd
        have m1 : sml dx = true := smls_mem sm List.mem_cons_self
        have m2 : sml dy = true := smls_mem sm (List.mem_cons_of_mem _ List.mem_cons_self)
        refine ⟨_, rfl, a, _, rfl, ha.sq, rfl, _, _, rfl, _, _, rfl, _, _, rfl, rfl, ?_⟩
        have e : isMsg [dx, dy, dz] = (isHost dx && (isWord dy && isIdx 2 dz)) := rfl
        rw [e] at q
        refine ⟨_, rfl, x, rfl, kd_dn h1 m1, fun H1 s1 => ?_⟩
        rw [host_dn h1]
        refine ⟨_, rfl, ite2 (fun c1 => ?_) (fun c1 => ?_)⟩
        · rw [c1, Bool.true_and] at q
          refine ⟨_, rfl, y, rfl, kd_dn (h2.same s1) m2, fun H2 s2 => ?_⟩
          rw [word_dn h2]
          refine ⟨_, rfl, ite2 (fun c2 => ?_) (fun c2 => ?_)⟩
          · rw [c2, Bool.true_and] at q
            exact ⟨_, rfl, z, 2, dz, rfl, (h3.same s1).same s2, q _ (s1.trans s2)⟩
          · rw [Bool.eq_false_iff.mpr c2, Bool.false_and] at q
            exact q _ (s1.trans s2)
        · rw [Bool.eq_false_iff.mpr c1, Bool.false_and] at q
          exact q _ s1
def spItem (K : PySem.W.Frag) : Sp := fun vs H Q _ => ∃ (v : V) (d : PyData), vs = [v] ∧ Dn K H v d ∧ sml d = true ∧ ∀ H', Same H H' → Q (.bl (isItem d)) H'
theorem smls_tail {d : PyData} {ds : List PyData} (h : smls (d :: ds) = true) : smls ds = true := by
  have h2 : sml d = true ∧ smls ds = true := by simpa only [smls, Bool.and_eq_true] using h
  exact h2.2
theorem ok_item {f : Addr} {fd : FuncData} (F : Fun K "is_item" "is_item" s_is_item f fd) (Y : Bn mg) (T : TxtI mg) (G_are_message_parts : Fk P w K mg base CX0 3 "are_message_parts" ["parts"] (spMsg K)) (G_is_control_kind : Fk P w K mg base CX0 1 "is_control_kind" ["value"] (spKind K))
    (G_is_relink : Fk P w K mg base CX0 4 "is_relink" ["value"] (spRel K)) : FnOk P w K mg base CX0 5 f fd ["value"] (spItem K) := by
  obtain ⟨t1, e1⟩ := T.ms
  obtain ⟨t2, e2⟩ := T.by_
  refine F.ok sc_is_item (fun vs H Q E h => ?_) (fun cdv A outer s H vs Q E hr h => ?_)
  · obtain ⟨v, d, rfl, _⟩ := h
    rfl
  · obtain ⟨v, d, rfl, dn, sm, q⟩ := h
    refine ⟨_, (pss_cons (ps_if (PW.pt (pw_or (pt_not (pt_val (pe_callB call_isi (by rfl) Y.isinstance (by decide +kernel) (pa_cons (pv 0) (pa_cons (pe_bltn (v := .ty "tuple") (by rfl) Y.tuple (by decide +kernel) rfl) pa_nil))))) (pw_or (pt_cmpR op_eq (pe_callB call_len_seq (by rfl) Y.len PySem.boot_len (pa_cons (pv 0) pa_nil)) pe_int (nomark _)) (pw_or1 (pt_not (pt_val (pe_callB call_isi (by rfl) Y.isinstance (by decide +kernel) (pa_cons (pe_ix ix_tup (pv 0) pe_int (fun _ _ => rfl)) (pa_cons (pe_bltn (v := .ty "str") (by rfl) Y.str (by decide +kernel) rfl) pa_nil)))))))))
 (pss_one (ps_ret pe_bl))
 pss_nil)
 (pss_cons (ps_set (i := 1) sc_is_item.nd rfl (.inl rfl) (pe_slice sl_cutA (pv 0) (po_some pe_int) po_none))
 (pss_cons (ps_if (pt_cmpR op_eq (pe_ix ix_tup (pv 0) pe_int (fun _ _ => rfl)) (pe_glob (v := .str "message") (by rfl) e1 ⟨_, rfl⟩) (nomark _))
 (pss_one (ps_ret (pe_callF G_are_message_parts (hr.mono (by decide)) (by rfl) pass0 (pa_cons (pv 1) pa_nil))))
 pss_nil)
 (pss_cons (ps_if (pt_cmpR op_eq (pe_ix ix_tup (pv 0) pe_int (fun _ _ => rfl)) (pe_glob (v := .str "bye") (by rfl) e2 ⟨_, rfl⟩) (nomark _))
 (pss_one (ps_ret (pe_cmpR op_eq (pe_callB call_len_seq (by rfl) Y.len PySem.boot_len (pa_cons (pv 1) pa_nil)) pe_int (nomark _))))
 pss_nil)
 (pss_one (ps_ret (pe_and (pe_callF G_is_control_kind (hr.mono (by decide)) (by rfl) pass0 (pa_cons (pe_ix ix_tup (pv 0) pe_int (fun _ _ => rfl)) pa_nil)) (pe_one (pe_callF G_is_relink (hr.mono (by decide)) (by rfl) pass0 (pa_cons (pv 1) pa_nil)))))))))), ?_⟩
    rcases tup_or dn with ⟨a, xs, ds, rfl, rfl, ha, hd⟩ | ⟨no, t, ty, kt⟩
    · have sm2 : ds.length ≤ 660 ∧ smls ds = true := by simpa only [sml, Bool.and_eq_true, decide_eq_true_eq] using sm
      refine ⟨_, rfl, _, _, _, _, true, rfl, .ty "tuple", ha.ty, kit_ty (by decide +kernel), _, rfl, iteF ?_⟩
      refine ⟨_, rfl, a, _, rfl, .inr ha.sq, rfl, _, rfl, ?_⟩
      cases hd with
      | nil =>
        refine iteT (iteT ?_)
        exact q _ (Same.refl _)
      | @cons x xs d0 ds h0 hd =>
        refine iteF ?_
        refine ⟨_, rfl, a, _, 0, x, rfl, rfl, ha.sq, atI_nat (j := 0) rfl, ?_⟩
        rcases str_or h0 with ⟨k, rfl, rfl⟩ | ⟨no, t, ty, kt⟩
        · refine ⟨_, _, _, _, true, rfl, .ty "str", .base (.str k), kit_ty (by decide +kernel), _, rfl, iteF ?_⟩
          have e : isItem (.tuple (.str k :: ds)) = (if k = "message" then isMsg ds else if k = "bye" then ds.isEmpty else decide (k ∈ KINDS) && isRel (.tuple ds)) := rfl
          rw [e] at q
          refine ⟨_, rfl, 1, rfl, a, _, rfl, ha, ?_⟩
          rw [cut1]
          have el := Dns.len hd
          refine ⟨fun z => ?_, fun p o np st tp => ?_⟩
          · have z := congrArg List.length z
            rw [List.length_cons] at z
            omega
          generalize upd _ p o = H1 at st tp ⊢
          have ha1 := ha.same st
          have hd1 := hd.same st
          have sp : smls ds = true := smls_tail sm2.2
          have lp : ds.length ≤ 660 := by have := sm2.1; rw [List.length_cons] at this; omega
          refine ⟨_, rfl, a, _, 0, _, rfl, rfl, ha1.sq, atI_nat (j := 0) rfl, rfl, _, rfl, ite2 (fun c1 => ?_) (fun c1 => ?_)⟩
          · have c1' : k = "message" := by
              have z := of_decide_eq_true c1
              injection z
            rw [if_pos c1'] at q
            exact ⟨_, rfl, p, _, ds, rfl, tp, hd1, sp, fun H2 s2 => q _ (st.trans s2)⟩
          have c1' : ¬ k = "message" := fun z => c1 (decide_eq_true (by rw [z]))
          rw [if_neg c1'] at q
          refine ⟨_, rfl, a, _, 0, _, rfl, rfl, ha1.sq, atI_nat (j := 0) rfl, rfl, _, rfl, ite2 (fun c2 => ?_) (fun c2 => ?_)⟩
          · have c2' : k = "bye" := by
              have z := of_decide_eq_true c2
              injection z
            rw [if_pos c2'] at q
            refine ⟨_, rfl, p, _, rfl, .inr tp.sq, rfl, ?_⟩
            have z : decide (V.int (xs.length : Int) = V.int 0) = ds.isEmpty := by
              rw [el]
              cases ds with
              | nil => rfl
              | cons y ys =>
                refine decide_eq_false fun w => ?_
                injection w with w
                rw [List.length_cons] at w
                omega
            rw [z]
            exact q _ st
          have c2' : ¬ k = "bye" := fun z => c2 (decide_eq_true (by rw [z]))
          rw [if_neg c2'] at q
          refine ⟨_, rfl, a, _, 0, _, rfl, rfl, ha1.sq, atI_nat (j := 0) rfl, _, .str k, rfl, .str k, _, rfl, ?_⟩
          have ek : isKind (.str k) = decide (k ∈ KINDS) := rfl
          rw [ek]
          refine ite2 (fun c3 => ?_) (fun c3 => ?_)
          · rw [c3, Bool.true_and] at q
            refine ⟨_, rfl, _, .tuple ds, rfl, .tup tp hd1, ?_, fun H2 s2 => q _ (st.trans s2)⟩
            show (decide (ds.length ≤ 660) && smls ds) = true
            rw [decide_eq_true lp, sp]
            rfl
          · rw [Bool.eq_false_iff.mpr c3, Bool.false_and] at q
            exact q _ st
        · refine ⟨_, _, _, _, false, rfl, .ty "str", ty, kit_ty kt, _, rfl, iteT ?_⟩
          have z : isItem (.tuple (d0 :: ds)) = false := by
            cases d0 with
            | str x => exact absurd rfl (no x)
            | _ => rfl
          rw [z] at q
          exact q _ (Same.refl _)
    · refine ⟨v, rfl, v, _, _, _, false, rfl, .ty "tuple", ty, kit_ty kt, _, rfl, ?_⟩
      refine iteT (iteT ?_)
      have z : isItem d = false := by
        cases d with
        | tuple ds => exact absurd rfl (no ds)
        | _ => rfl
      rw [z] at q
      exact q _ (Same.refl _)
end
end My

namespace My
open PySem PySem.Spec PyProof.Rows L2 Gy Xl Xs Xt
/-! ### the written form of items, and what is read from a text: over texts and data alone -/
def numS (i : Nat) : Str := Str.ofString (toString (i : Int))
theorem numS_inj {i j : Nat} (h : numS i = numS j) : i = j := by
  have e := congrArg TL.tl h
  unfold numS at e
  rw [TL.tl_num, TL.tl_num] at e
  exact TL.numL_inj e
theorem numS_free {i s : Nat} (h : s < 48 ∨ 57 < s) : s ∉ TL.tl (numS i) := by
  unfold numS
  rw [TL.tl_num]
  exact TL.numL_free h
theorem numS_len {i k : Nat} (hk : 0 < k) (h : i < 10 ^ k) : (numS i).length ≤ k := by
  unfold numS
  rw [TL.len_tl, TL.tl_num]
  exact TL.numL_len hk h
theorem log2_small {i k : Nat} (h : i < 2 ^ k) (h2 : k < 1920) : i.log2 < 1920 := by
  by_cases z : i = 0
  · rw [z]
    decide
  · exact Nat.lt_trans ((Nat.log2_lt z).mpr h) h2
/-- the number that is written so, below n -/
def pIdx (x : Str) (n : Nat) : Option Nat := (List.range n).find? fun i => decide (numS i = x)
theorem pIdx_some {x : Str} {n i : Nat} (h : pIdx x n = some i) : numS i = x ∧ i < n ∧ ∀ j, j < i → numS j ≠ x := by
  unfold pIdx at h
  rw [List.find?_range_eq_some] at h
  obtain ⟨h1, h2, h3⟩ := h
  refine ⟨of_decide_eq_true h1, List.mem_range.mp h2, fun j hj z => ?_⟩
  have := h3 j hj
  rw [decide_eq_true z] at this
  cases this
theorem pIdx_none {x : Str} {n : Nat} (h : pIdx x n = none) : ∀ i, i < n → numS i ≠ x := fun i hi z => by
  unfold pIdx at h
  rw [List.find?_eq_none] at h
  exact h i (List.mem_range.mpr hi) (decide_eq_true z)
theorem pIdx_num {i n : Nat} (h : i < n) : pIdx (numS i) n = some i := by
  cases e : pIdx (numS i) n with
  | none => exact absurd rfl (pIdx_none e i h)
  | some j => rw [numS_inj (pIdx_some e).1]
def oV : Option Nat → V
  | some i => .int (i : Int)
  | none => .non
def oD : Option Nat → PyData
  | some i => .int (i : Int)
  | none => .none
def nums (n : Nat) : List Str := (List.range n).map numS
theorem nums_mem {x : Str} {n : Nat} : x ∈ nums n ↔ ∃ i, pIdx x n = some i := by
  unfold nums
  rw [List.mem_map]
  constructor
  · rintro ⟨i, hi, rfl⟩
    exact ⟨i, pIdx_num (List.mem_range.mp hi)⟩
  · rintro ⟨i, h⟩
    exact ⟨i, List.mem_range.mpr (pIdx_some h).2.1, (pIdx_some h).1⟩
theorem nums_succ (n : Nat) : nums (n + 1) = nums n ++ [numS n] := by
  unfold nums
  rw [List.range_succ, List.map_append]
  rfl
theorem nums_len (n : Nat) : (nums n).length = n := by
  unfold nums
  rw [List.length_map, List.length_range]
theorem nums_get {n i : Nat} (h : i < n) : (nums n)[i]? = some (numS i) := by
  unfold nums
  rw [List.getElem?_map, List.getElem?_range h]
  rfl
/-- str(part) -/
def dText : PyData → Str
  | .str x => x
  | .int i => Str.ofString (toString i)
  | _ => Str.empty
/-- the written form -/
def itText : PyData → Str
  | .tuple [.str k, .tuple ds, c] => Txt.join " " [k, Txt.join "," (txts ds), dText c]
  | .tuple ds => Txt.join " " (ds.map dText)
  | _ => Str.empty
/-- the data that the parts of a text stand for -/
def itemOf : List Str → PyData
  | [k, w, x, b] => .tuple [.str k, .str w, .str x, oD (pIdx b 2)]
  | [k, p, c] => .tuple [.str k, .tuple ((Txt.split p ",").map PyData.str), oD (pIdx c ((Txt.split p ",").length - 1))]
  | ps => .tuple (ps.map PyData.str)
theorem txts_map : ∀ xs : List Str, txts (xs.map PyData.str) = xs
  | [] => rfl
  | x :: xs => by
    show x :: txts (xs.map PyData.str) = _
    rw [txts_map xs]
/-- the data of a relink -/
def reld (xs : List Str) (c : Nat) : PyData := .tuple [.tuple (xs.map PyData.str), .int (c : Int)]
theorem rel_parts {d : PyData} (h : isRel d = true) : ∃ (xs : List Str) (c : Nat), d = reld xs c ∧ 3 ≤ xs.length ∧ xs.Nodup ∧ c + 2 ≤ xs.length ∧ (xs.map PyData.str).all isHost = true := by
  match d, h with
  | .tuple [.tuple ds, c], h =>
    have h2 : isPath (.tuple ds) = true ∧ isIdx ((ds.length : Int) - 1) c = true := by simpa only [isRel, Bool.and_eq_true] using h
    have h3 := h2.1
    rw [isPath_t, Bool.and_eq_true, Bool.and_eq_true, decide_eq_true_eq, decide_eq_true_eq] at h3
    obtain ⟨l3, ah, nd⟩ := h3
    have e := txts_all ah
    have el : ds.length = (txts ds).length := by
      have := congrArg List.length e
      rw [List.length_map] at this
      exact this
    match c, h2.2 with
    | .int i, hc =>
      rw [isIdx_i, Bool.and_eq_true, decide_eq_true_eq, decide_eq_true_eq] at hc
      obtain ⟨j, rfl⟩ := Int.eq_ofNat_of_zero_le hc.1
      refine ⟨txts ds, j, ?_, by omega, nd, by omega, by rw [← e]; exact ah⟩
      unfold reld
      rw [← e]
inductive ItC : PyData → Prop
  | msg (w x : Str) (b : Nat) (hw : isHost (.str w) = true) (hx : isWord (.str x) = true) (hb : b < 2) : ItC (.tuple [.str "message", .str w, .str x, .int (b : Int)])
  | bye : ItC (.tuple [.str "bye"])
  | ctl (k : Str) (xs : List Str) (c : Nat) (hk : k ∈ KINDS) (l3 : 3 ≤ xs.length) (cl : c + 2 ≤ xs.length) (ah : (xs.map PyData.str).all isHost = true) : ItC (.tuple [.str k, .tuple (xs.map PyData.str), .int (c : Int)])
theorem it_cases {d : PyData} (h : isItem d = true) : ItC d := by
  match d, h with
  | .tuple (.str k :: ds), h =>
    have h' : (if k = "message" then isMsg ds else if k = "bye" then ds.isEmpty else decide (k ∈ KINDS) && isRel (.tuple ds)) = true := h
    by_cases c1 : k = "message"
    · rw [if_pos c1] at h'
      subst c1
      match ds, h' with
      | [w, x, b], h' =>
        have h2 : (isHost w && (isWord x && isIdx 2 b)) = true := h'
        rw [Bool.and_eq_true, Bool.and_eq_true] at h2
        obtain ⟨a1, a2, a3⟩ := h2
        match w, a1, x, a2, b, a3 with
        | .str w, a1, .str x, a2, .int i, a3 =>
          rw [isIdx_i, Bool.and_eq_true, decide_eq_true_eq, decide_eq_true_eq] at a3
          obtain ⟨j, rfl⟩ := Int.eq_ofNat_of_zero_le a3.1
          exact .msg w x j a1 a2 (by omega)
    · rw [if_neg c1] at h'
      by_cases c2 : k = "bye"
      · rw [if_pos c2] at h'
        subst c2
        match ds, h' with
        | [], _ => exact .bye
      · rw [if_neg c2, Bool.and_eq_true, decide_eq_true_eq] at h'
        obtain ⟨xs, c, e, l3, nd, cl, ah⟩ := rel_parts h'.2
        unfold reld at e
        injection e with e
        subst e
        exact .ctl k xs c h'.1 l3 cl ah
theorem host_in {x : Str} (h : isHost (.str x) = true) : 1 ≤ x.length ∧ x.length ≤ 8 ∧ ∀ c ∈ TL.tl x, c ∈ LET.cps.toList := by
  have h' : (decide ((1 : Int) ≤ (x.length : Int)) && decide ((x.length : Int) ≤ 8) && allIn LET x) = true := h
  rw [Bool.and_eq_true, Bool.and_eq_true, decide_eq_true_eq, decide_eq_true_eq] at h'
  refine ⟨by omega, by omega, fun c hc => ?_⟩
  exact of_decide_eq_true (List.all_eq_true.mp h'.2 c hc)
theorem word_in {x : Str} (h : isWord (.str x) = true) : 1 ≤ x.length ∧ x.length ≤ 12 ∧ ∀ c ∈ TL.tl x, c ∈ WSG.cps.toList := by
  have h' : (decide ((1 : Int) ≤ (x.length : Int)) && decide ((x.length : Int) ≤ 12) && allIn WSG x) = true := h
  rw [Bool.and_eq_true, Bool.and_eq_true, decide_eq_true_eq, decide_eq_true_eq] at h'
  refine ⟨by omega, by omega, fun c hc => ?_⟩
  exact of_decide_eq_true (List.all_eq_true.mp h'.2 c hc)
theorem let_no : (32 ∉ LET.cps.toList) ∧ 44 ∉ LET.cps.toList := by decide +kernel
theorem wsg_no : (32 ∉ WSG.cps.toList) ∧ 44 ∉ WSG.cps.toList := by decide +kernel
theorem kinds_no {k : Str} (h : k ∈ KINDS) : (32 ∉ TL.tl k) ∧ k.length ≤ 7 := by
  unfold KINDS at h
  simp only [List.mem_cons, List.not_mem_nil, or_false] at h
  rcases h with rfl | rfl | rfl | rfl | rfl <;> decide +kernel
theorem hosts_in {xs : List Str} (ah : (xs.map PyData.str).all isHost = true) : ∀ x ∈ xs, isHost (.str x) = true := fun x hx =>
  List.all_eq_true.mp ah _ (List.mem_map_of_mem hx)
theorem join_free {y : Str} {s : Nat} (hy : s ∉ TL.tl y) : ∀ {xs : List Str}, (∀ x ∈ xs, s ∉ TL.tl x) → s ∉ TL.tl (Txt.join y xs) := by
  intro xs h
  rw [TL.join_eq]
  induction xs with
  | nil => exact fun z => nomatch z
  | cons x xs ih =>
    cases xs with
    | nil => exact h x List.mem_cons_self
    | cons z r =>
      show s ∉ TL.tl (x ++ y ++ Str.join y (z :: r))
      rw [TL.tl_append, TL.tl_append, List.mem_append, List.mem_append]
      rintro ((q | q) | q)
      · exact h x List.mem_cons_self q
      · exact hy q
      · exact ih (fun w hw => h w (List.mem_cons_of_mem _ hw)) q
theorem split_sp {ps : List Str} (hne : ps ≠ []) (hp : ∀ p ∈ ps, 32 ∉ TL.tl p) : Txt.split (Txt.join " " ps) " " = ps :=
  TL.split_join (y := " ") (s := 32) (S := []) (by decide +kernel) (by decide +kernel) hne hp
theorem split_co {ps : List Str} (hne : ps ≠ []) (hp : ∀ p ∈ ps, 44 ∉ TL.tl p) : Txt.split (Txt.join "," ps) "," = ps :=
  TL.split_join (y := ",") (s := 44) (S := []) (by decide +kernel) (by decide +kernel) hne hp
/-- the parts of the written form -/
def itParts : PyData → List Str
  | .tuple [.str k, .tuple ds, c] => [k, Txt.join "," (txts ds), dText c]
  | .tuple ds => ds.map dText
  | _ => []
theorem it_text {d : PyData} (h : ItC d) : itText d = Txt.join " " (itParts d) := by
  cases h <;> rfl
theorem it_split {d : PyData} (h : ItC d) : Txt.split (itText d) " " = itParts d := by
  rw [it_text h]
  cases h with
  | msg w x b hw hx hb =>
    refine split_sp (fun z => nomatch z) fun p hp => ?_
    have hp' : p ∈ [("message" : Str), w, x, numS b] := hp
    simp only [List.mem_cons, List.not_mem_nil, or_false] at hp'
    rcases hp' with rfl | rfl | rfl | rfl
    · decide +kernel
    · exact fun z => let_no.1 ((host_in hw).2.2 _ z)
    · exact fun z => wsg_no.1 ((word_in hx).2.2 _ z)
    · exact numS_free (.inl (by decide))
  | bye =>
    refine split_sp (fun z => nomatch z) fun p hp => ?_
    have hp' : p ∈ [("bye" : Str)] := hp
    rw [List.mem_singleton] at hp'
    subst hp'
    decide +kernel
  | ctl k xs c hk l3 cl ah =>
    refine split_sp (fun z => nomatch z) fun p hp => ?_
    have hp' : p ∈ [k, Txt.join "," (txts (xs.map PyData.str)), numS c] := hp
    simp only [List.mem_cons, List.not_mem_nil, or_false] at hp'
    rcases hp' with rfl | rfl | rfl
    · exact (kinds_no hk).1
    · rw [txts_map]
      exact join_free (by decide +kernel) fun x hx z => let_no.1 ((host_in (hosts_in ah x hx)).2.2 _ z)
    · exact numS_free (.inl (by decide))
theorem it_back {d : PyData} (h : ItC d) : itemOf (Txt.split (itText d) " ") = d := by
  rw [it_split h]
  cases h with
  | msg w x b hw hx hb =>
    show PyData.tuple [.str "message", .str w, .str x, oD (pIdx (numS b) 2)] = _
    rw [pIdx_num hb]
    rfl
  | bye => rfl
  | ctl k xs c hk l3 cl ah =>
    show PyData.tuple [.str k, .tuple ((Txt.split (Txt.join "," (txts (xs.map PyData.str))) ",").map PyData.str), oD (pIdx (numS c) ((Txt.split (Txt.join "," (txts (xs.map PyData.str))) ",").length - 1))] = _
    rw [txts_map, split_co (fun z => by rw [z] at l3; cases l3) fun x hx z => let_no.2 ((host_in (hosts_in ah x hx)).2.2 _ z), pIdx_num (by omega)]
    rfl
theorem sum_le {α : Type} {f : α → Nat} {m : Nat} : ∀ {l : List α}, (∀ x ∈ l, f x ≤ m) → (l.map f).sum ≤ l.length * m
  | [], _ => Nat.zero_le _
  | x :: l, h => by
    rw [List.map_cons, List.sum_cons, List.length_cons, Nat.add_mul, Nat.one_mul]
    have a := h x List.mem_cons_self
    have b := sum_le (l := l) fun y hy => h y (List.mem_cons_of_mem _ hy)
    omega
theorem joinLen {y : Str} {m n : Nat} {xs : List Str} (h : ∀ x ∈ xs, x.length ≤ m) (l : xs.length ≤ n) (hy : y.length = 1) : (Txt.join y xs).length ≤ n * (m + 1) := by
  rw [TL.join_eq]
  have z : ∀ ws : List Str, (∀ x ∈ ws, x.length ≤ m) → (Str.join y ws).length ≤ ws.length * (m + 1) := by
    intro ws
    induction ws with
    | nil => exact fun _ => Nat.zero_le _
    | cons w ws ih =>
      intro hw
      cases ws with
      | nil =>
        have := hw w List.mem_cons_self
        show w.length ≤ 1 * (m + 1)
        omega
      | cons v ws =>
        have a := hw w List.mem_cons_self
        have b := ih fun x hx => hw x (List.mem_cons_of_mem _ hx)
        show (w ++ y ++ Str.join y (v :: ws)).length ≤ _
        rw [TL.len_tl, TL.tl_append, TL.tl_append, List.length_append, List.length_append, ← TL.len_tl, ← TL.len_tl, ← TL.len_tl, hy, List.length_cons (a := w), Nat.add_mul, Nat.one_mul]
        omega
  exact Nat.le_trans (z xs h) (Nat.mul_le_mul_right _ l)
theorem str_app_empty (x : Str) : Str.empty ++ x = x := TL.ext_tl (by rw [TL.tl_append]; rfl)
theorem str_assoc (x y z : Str) : x ++ y ++ z = x ++ (y ++ z) := TL.ext_tl (by simp only [TL.tl_append, List.append_assoc])
theorem len_app (x y : Str) : (x ++ y).length = x.length + y.length := by
  rw [TL.len_tl, TL.tl_append, List.length_append, ← TL.len_tl, ← TL.len_tl]
theorem join3 (a b c : Str) : Txt.join " " [a, b, c] = a ++ " " ++ b ++ " " ++ c := by
  rw [TL.join_eq]
  show a ++ " " ++ (b ++ " " ++ c) = _
  rw [str_assoc (a ++ " " ++ b), str_assoc (a ++ " ") b, str_assoc b]
theorem mem_join_le {y p : Str} : ∀ {xs : List Str}, p ∈ xs → p.length ≤ (Str.join y xs).length
  | [x], h => by
    rw [List.mem_singleton.mp h]
    exact Nat.le_refl _
  | x :: z :: r, h => by
    show _ ≤ (x ++ y ++ Str.join y (z :: r)).length
    rw [len_app, len_app]
    rcases List.mem_cons.mp h with rfl | h
    · omega
    · have := mem_join_le (y := y) h
      omega
theorem part_le (x : Str) {y p : Str} (h : p ∈ Txt.split x y) : p.length ≤ x.length := by
  have := mem_join_le (y := y) h
  rw [StrLaws.join_split] at this
  exact this
theorem call_strSI {X : Cx} : CallR X (.type "str") (fun xs H Q => (∃ a, xs = [.str a] ∧ Q (.str a) H) ∨ ∃ i, xs = [.int i] ∧ i.natAbs.log2 < 1920 ∧ Q (.str (Str.ofString (toString i))) H) := by
  intro pins s σ H xs us Q I r h
  rcases h with h | h
  · exact SkE.call_str_str pins s σ H xs us Q I r h
  · exact call_str_int pins s σ H xs us Q I r h
end My

namespace My
open PySem PySem.Spec PyProof.Rows L2 Gy Xl Xs Xt
/-- a class of errors with one field: raised -/
structure Rz (P : Program) (w : World) (K : PySem.W.Frag) (mg : Str → Option Value) (base : Heap) (nm f : Str) (C : Addr) : Prop where
  gm : mg nm = some (.ref C)
  ty : PySem.W.typeIn K (.ref C) = some (.type "type")
  ex : ∃ (fI : Addr) (fd : FuncData), XIn K C fI ∧ FnOk P w K mg base CX0 1 fI fd ["self", f] (spI1 C f) ∧ XB K fd ["self", f] [] (fun us _ => us) (fun vs _ => vs)
/-- what is wanted where C(v) is raised -/
def Ro (E : XK) (C : Addr) (f : Str) (v : V) (H : Hp) : Prop := ∀ H' dx, Same H H' → H' dx = some (.xd [(f, v)]) → E (.ref C) (some dx) H'
theorem Ro.same {E : XK} {C : Addr} {f : Str} {v : V} {H H1 : Hp} (h : Ro E C f v H) (s : Same H H1) : Ro E C f v H1 := fun H' dx s1 e => h H' dx (s.trans s1) e
theorem le400 {n : Nat} (h : n ≤ 10000) : n ≤ sizeLine := Nat.le_trans h (by decide)
section
variable {P : Program} {w : World} {K : PySem.W.Frag} {mg : Str → Option Value} {base : Heap} {H : Hp}
theorem dn_o (o : Option Nat) : Dn K H (oV o) (oD o) := by
  cases o with
  | none => exact .non
  | some i => exact .int _
theorem dns_strs : ∀ xs : List Str, Dns K H (xs.map V.str) (xs.map PyData.str)
  | [] => .nil
  | x :: xs => .cons (.str x) (dns_strs xs)
def spPI : Sp := fun vs H Q _ => ∃ (x : Str) (n : Int), vs = [.str x, .int n] ∧ -1000 ≤ n ∧ n ≤ 1000 ∧ ∀ H', Same H H' → Q (oV (pIdx x n.toNat)) H'
theorem ok_pi {f : Addr} {fd : FuncData} (F : Fun K "parse_index" "parse_index" s_parse_index f fd) (Y : Bn mg) : FnOk P w K mg base CX0 1 f fd ["text", "size"] spPI := by
  refine F.ok sc_parse_index (fun vs H Q E h => ?_) (fun cdv A outer s H vs Q E hr h => ?_)
  · obtain ⟨x, n, rfl, _⟩ := h
    rfl
  · obtain ⟨x, n, rfl, n0, n1, q⟩ := h
    refine ⟨_, (pss_cons (ps_setLc (i := 2) (own := [("index", 3)]) (g := gName 3) (tt := tYes) rfl sc_parse_index.nd rfl rfl (sw_true rfl rfl rfl (by decide +kernel)) (pi_range1 (by rfl) Y.range (pa_cons (pv 1) pa_nil)) (blkOk_by (N := ["text", "size", "written", "index"]) (sc := defScope s_parse_index) (by decide +kernel)) (fun _ _ _ _ _ => (pg_name (i := 3) sc_parse_index.nd rfl (Or.inl rfl))) (fun _ _ _ _ _ => pts_nil) (fun _ _ _ _ _ => (pe_callTy call_str_int (by rfl) Y.str (by decide +kernel) (pa_cons (pv 3) pa_nil))))
 (pss_one (ps_ret (pe_ifExp (pt_cmpR op_in_seq (pv 0) (pv 2) rfl) (pe_bm PySem.F.plainAttrs_list PySem.F.slot_list_index PySem.F.type_list_index mt_index (pv 2) (pa_cons (pv 0) pa_nil)) pe_non)))), ?_⟩
    refine ⟨_, rfl, n, rfl, by omega, by omega, fun D hD => ?_⟩
    refine lc_it (walk_range (lo := 0) (n := n.toNat)) (fun i H' => Same H H' ∧ H' D = some (.lst ((nums i).map V.str))) ⟨same_upd hD, upd_same⟩ (fun _ _ _ _ => trivial) ?_ ?_
    · rintro i y H1 H2 hi ⟨s1, hL⟩ ⟨rfl, rfl⟩
      refine ⟨rfl, ?_⟩
      dsimp only [tYes]
      refine iteT ?_
      refine ⟨_, rfl, _, rfl, ?_, _, hL, ?_, same_upd2 s1 hD, ?_⟩
      · rw [Int.zero_add]
        show i.log2 < 1920
        exact log2_small (k := 10) (by show i < 1024; omega) (by decide)
      · rw [List.length_map, nums_len]
        exact Nat.lt_of_lt_of_le (show i < 1000 by omega) (le400 (by decide))
      · rw [upd_same, nums_succ, List.map_append, Int.zero_add]
        rfl
    · rintro H1 ⟨s1, hL⟩
      refine ⟨_, rfl, _, rfl, D, _, rfl, .inl (SqL.of hL), rfl, flat_strs _, _, rfl, ite2 (fun c => ?_) (fun c => ?_)⟩
      · have c' : inV (.str x) ((nums n.toNat).map V.str) = true := c
        rw [inV_strs] at c'
        obtain ⟨i, hi⟩ := nums_mem.mp (of_decide_eq_true c')
        obtain ⟨e1, e2, e3⟩ := pIdx_some hi
        rw [hi] at q
        refine ⟨_, rfl, .inl ⟨rfl, _, SqL.of hL⟩, _, rfl, D, _, _, i, .str (numS i), rfl, rfl, SqL.of hL, rfl, flat_strs _, ?_, ?_, ?_, q _ s1⟩
        · rw [List.getElem?_map, nums_get e2]
          rfl
        · show (numS i == x) = true
          rw [beq_iff_eq]
          exact e1
        · intro m z hm hz
          rw [List.getElem?_map, nums_get (by omega)] at hz
          injection hz with hz
          subst hz
          show (numS m == x) = false
          rw [beq_eq_false_iff_ne]
          exact e3 m hm
      · have c' : ¬ inV (.str x) ((nums n.toNat).map V.str) = true := c
        rw [inV_strs, decide_eq_true_eq] at c'
        have e : pIdx x n.toNat = none := by
          cases e : pIdx x n.toNat with
          | none => rfl
          | some i => exact absurd (nums_mem.mpr ⟨i, e⟩) c'
        rw [e] at q
        exact q _ s1
def spRT : Sp := fun vs H Q _ => ∃ (a b : Addr) (xs : List Str) (c : Nat), vs = [.ref a] ∧ Tz H a [.ref b, .int (c : Int)] ∧ Tz H b (xs.map V.str) ∧ (∀ x ∈ xs, x.length ≤ 8) ∧ xs.length ≤ 700 ∧ c ≤ 1000 ∧ Q (.str (Txt.join "," xs ++ " " ++ numS c)) H
theorem ok_rt {f : Addr} {fd : FuncData} (F : Fun K "relink_text" "relink_text" s_relink_text f fd) : FnOk P w K mg base CX0 1 f fd ["relink"] spRT := by
  refine F.ok sc_relink_text (fun vs H Q E h => ?_) (fun cdv A outer s H vs Q E hr h => ?_)
  · obtain ⟨a, b, xs, c, rfl, _⟩ := h
    rfl
  · obtain ⟨a, b, xs, c, rfl, ha, hb, lx, l200, c1, q⟩ := h
    refine ⟨_, (pss_cons (ps_asg (pv 0) (pg_tup (by rfl) (pgs_cons (pg_name (i := 1) sc_relink_text.nd rfl (Or.inl rfl)) (pgs_cons (pg_name (i := 2) sc_relink_text.nd rfl (Or.inl rfl)) pgs_nil))))
 (pss_cons (ps_set (i := 3) sc_relink_text.nd rfl (.inl rfl) (pe_join pe_str (pv 1)))
 (pss_one (ps_ret (pe_joined (.cons (pe_fmt (pv 3)) (.cons pe_str (.cons (pe_fmt (pv 2)) .nil)))))))), ?_⟩
    have jl : (Txt.join "," xs).length ≤ 700 * (8 + 1) := joinLen lx l200 rfl
    refine ⟨_, rfl, a, _, rfl, ha.sq, rfl, _, _, rfl, _, _, rfl, rfl, ?_⟩
    refine ⟨⟨_, rfl⟩, _, rfl, _, b, xs, rfl, rfl, .inr hb.sq, ?_, ?_⟩
    · have z : (xs.map (·.length)).sum ≤ xs.length * 8 := sum_le lx
      have y : ((",": Str)).length = 1 := rfl
      rw [y]
      omega
    have lN : (numS c).length ≤ 4 := numS_len (by decide) (by show c < 10000; omega)
    refine ⟨_, rfl, .inl ⟨_, rfl, le400 (by omega), ?_⟩⟩
    refine ⟨_, rfl, (by rw [str_app_empty]; exact le400 (by omega)), ?_⟩
    refine ⟨_, rfl, (by rw [str_app_empty, len_app]; exact le400 (by show _ + 1 ≤ _; omega)), ?_⟩
    refine ⟨_, rfl, .inr ⟨_, rfl, log2_small (i := c) (k := 10) (by show c < 1024; omega) (by decide), ?_⟩⟩
    refine ⟨numS c, rfl, ?_, ?_⟩
    · rw [str_app_empty, len_app, len_app]
      exact le400 (by show _ + 1 + _ ≤ _; omega)
    rw [str_app_empty]
    exact q
def spRF : Sp := fun vs H Q _ => ∃ (h c : Str), vs = [.str h, .str c] ∧ h.length ≤ 900 ∧ ∀ H' (t p : Addr), Same H H' → Tz H' t [.ref p, oV (pIdx c ((Txt.split h ",").length - 1))] → Tz H' p ((Txt.split h ",").map V.str) → Q (.ref t) H'
theorem ok_rf {f : Addr} {fd : FuncData} (F : Fun K "relink_from" "relink_from" s_relink_from f fd) (Y : Bn mg) (G_parse_index : Fk P w K mg base CX0 1 "parse_index" ["text", "size"] spPI) : FnOk P w K mg base CX0 2 f fd ["hosts", "cut"] spRF := by
  refine F.ok sc_relink_from (fun vs H Q E h => ?_) (fun cdv A outer s H vs Q E hr h => ?_)
  · obtain ⟨h, c, rfl, _⟩ := h
    rfl
  · obtain ⟨h, c, rfl, l9, q⟩ := h
    refine ⟨_, (pss_cons (ps_set (i := 2) sc_relink_from.nd rfl (.inl rfl) (pe_callTy call_tupOf (by rfl) Y.tuple (by decide +kernel) (pa_cons (pe_split (pv 0) pe_str) pa_nil)))
 (pss_one (ps_ret (pe_tupZ (pa_cons (pv 2) (pa_cons (pe_callF G_parse_index (hr.mono (by decide)) (by rfl) pass0 (pa_cons (pv 1) (pa_cons (pe_op op_sub (pe_callB call_len_seq (by rfl) Y.len PySem.boot_len (pa_cons (pv 2) pa_nil)) pe_int) pa_nil))) pa_nil)))))), ?_⟩
    have sl := PyProof.Rows.split_le h ","
    refine ⟨_, rfl, ⟨_, rfl⟩, _, _, rfl, rfl, rfl, le400 (by omega), fun L nL => ?_⟩
    generalize hg : upd _ L _ = H1
    obtain ⟨s1, g1⟩ := (show Same H H1 ∧ H1 L = some (.lst ((Txt.split h ",").map V.str)) by rw [← hg]; exact ⟨same_upd nL, upd_same⟩)
    clear hg
    refine ⟨L, _, rfl, SqL.of g1, (by rw [List.length_map]; omega), fun p o np sp tp => ?_⟩
    generalize upd _ p o = H2 at sp tp ⊢
    refine ⟨_, rfl, _, rfl, _, rfl, p, _, rfl, .inr tp.sq, _, 1, rfl, rfl, c, _, rfl, ?_, ?_, fun H3 s3 => ?_⟩
    · omega
    · rw [List.length_map]
      omega
    refine ⟨(by show 2 ≤ sizeLine; decide), fun t ot nt st tt => ?_⟩
    refine q _ t p (((s1.trans sp).trans s3).trans st) ?_ ((tp.same s3).same st)
    have e : (((Txt.split h ",").map V.str).length - 1 : Int).toNat = (Txt.split h ",").length - 1 := by
      rw [List.length_map]
      omega
    rw [e] at tt
    exact tt
def spIF (K : PySem.W.Frag) : Sp := fun vs H Q _ => ∃ (L : Addr) (ps : List Str), vs = [.ref L] ∧ H L = some (.lst (ps.map V.str)) ∧ ps.length ≤ 950 ∧ (∀ p ∈ ps, p.length ≤ 900) ∧ ∀ H' (t : Addr), Same H H' → Dn K H' (.ref t) (itemOf ps) → Q (.ref t) H'
theorem itemOf_n {ps : List Str} (h4 : ps.length ≠ 4) (h3 : ps.length ≠ 3) : itemOf ps = .tuple (ps.map PyData.str) := by
  match ps, h4, h3 with
  | [], _, _ => rfl
  | [a], _, _ => rfl
  | [a, b], _, _ => rfl
  | [a, b, c], _, h => exact absurd rfl h
  | [a, b, c, d], h, _ => exact absurd rfl h
  | a :: b :: c :: d :: e :: r, _, _ => rfl
theorem ok_if {f : Addr} {fd : FuncData} (F : Fun K "item_from" "item_from" s_item_from f fd) (Y : Bn mg) (T : TxtI mg) (G_parse_index : Fk P w K mg base CX0 1 "parse_index" ["text", "size"] spPI) (G_relink_from : Fk P w K mg base CX0 2 "relink_from" ["hosts", "cut"] spRF) : FnOk P w K mg base CX0 3 f fd ["parts"] (spIF K) := by
  obtain ⟨t1, e1⟩ := T.bt
  refine F.ok sc_item_from (fun vs H Q E h => ?_) (fun cdv A outer s H vs Q E hr h => ?_)
  · obtain ⟨L, ps, rfl, _⟩ := h
    rfl
  · obtain ⟨L, ps, rfl, hL, l9, lp, q⟩ := h
    refine ⟨_, (pss_cons (ps_if (pt_cmpR op_eq (pe_callB call_len_seq (by rfl) Y.len PySem.boot_len (pa_cons (pv 0) pa_nil)) pe_int (nomark _))
 (pss_cons (ps_asg (pv 0) (pg_lst (by rfl) (pgs_cons (pg_name (i := 1) sc_item_from.nd rfl (Or.inl rfl)) (pgs_cons (pg_name (i := 2) sc_item_from.nd rfl (Or.inl rfl)) (pgs_cons (pg_name (i := 3) sc_item_from.nd rfl (Or.inl rfl)) (pgs_cons (pg_name (i := 4) sc_item_from.nd rfl (Or.inl rfl)) pgs_nil))))))
 (pss_one (ps_ret (pe_tupZ (pa_cons (pv 1) (pa_cons (pv 2) (pa_cons (pv 3) (pa_cons (pe_callF G_parse_index (hr.mono (by decide)) (by rfl) pass0 (pa_cons (pv 4) (pa_cons (pe_glob (v := .int 2) (by rfl) e1 ⟨_, rfl⟩) pa_nil))) pa_nil))))))))
 pss_nil)
 (pss_cons (ps_if (pt_cmpR op_eq (pe_callB call_len_seq (by rfl) Y.len PySem.boot_len (pa_cons (pv 0) pa_nil)) pe_int (nomark _))
 (pss_cons (ps_asg (pe_callF G_relink_from (hr.mono (by decide)) (by rfl) pass0 (pa_cons (pe_ix ix_list (pv 0) pe_int (fun _ _ => rfl)) (pa_cons (pe_ix ix_list (pv 0) pe_int (fun _ _ => rfl)) pa_nil))) (pg_tup (by rfl) (pgs_cons (pg_name (i := 5) sc_item_from.nd rfl (Or.inl rfl)) (pgs_cons (pg_name (i := 6) sc_item_from.nd rfl (Or.inl rfl)) pgs_nil))))
 (pss_one (ps_ret (pe_tupZ (pa_cons (pe_ix ix_list (pv 0) pe_int (fun _ _ => rfl)) (pa_cons (pv 5) (pa_cons (pv 6) pa_nil)))))))
 pss_nil)
 (pss_one (ps_ret (pe_callTy call_tupOf (by rfl) Y.tuple (by decide +kernel) (pa_cons (pv 0) pa_nil)))))), ?_⟩
    refine ⟨_, rfl, L, _, rfl, .inl (SqL.of hL), rfl, _, rfl, ite2 (fun c => ?_) (fun c => ?_)⟩
    · have c' : ps.length = 4 := by
        have z := of_decide_eq_true c
        injection z with z
        rw [List.length_map] at z
        omega
      obtain ⟨k, w', x, b, rfl⟩ : ∃ a b c d, ps = [a, b, c, d] := by
        match ps, c' with
        | [a, b, c, d], _ => exact ⟨a, b, c, d, rfl⟩
      refine ⟨_, rfl, L, _, rfl, SqL.of hL, rfl, _, _, rfl, _, _, rfl, _, _, rfl, _, _, rfl, rfl, ?_⟩
      refine ⟨_, rfl, _, rfl, _, rfl, _, rfl, b, 2, rfl, by decide, by decide, fun H1 s1 => ?_⟩
      refine ⟨(by show 4 ≤ sizeLine; decide), fun t ot nt st tt => ?_⟩
      exact q _ t (s1.trans st) (.tup tt (.cons (.str _) (.cons (.str _) (.cons (.str _) (.cons (dn_o _) .nil)))))
    have c4 : ps.length ≠ 4 := fun z => c (decide_eq_true (by rw [List.length_map, z]; rfl))
    refine ⟨_, rfl, L, _, rfl, .inl (SqL.of hL), rfl, _, rfl, ite2 (fun c => ?_) (fun c => ?_)⟩
    · have c' : ps.length = 3 := by
        have z := of_decide_eq_true c
        injection z with z
        rw [List.length_map] at z
        omega
      obtain ⟨k, p, x, rfl⟩ : ∃ a b c, ps = [a, b, c] := by
        match ps, c' with
        | [a, b, c], _ => exact ⟨a, b, c, rfl⟩
      refine ⟨_, rfl, L, _, 1, .str p, rfl, rfl, SqL.of hL, atI_nat (j := 1) rfl, _, rfl, L, _, 2, .str x, rfl, rfl, SqL.of hL, atI_nat (j := 2) rfl, p, x, rfl, lp p (by simp), fun H1 t pa s1 tt tp => ?_⟩
      refine ⟨t, _, rfl, tt.sq, rfl, _, _, rfl, _, _, rfl, rfl, ?_⟩
      refine ⟨_, rfl, L, _, 0, .str k, rfl, rfl, SqL.of (s1 _ _ hL), atI_nat (j := 0) rfl, _, rfl, _, rfl, (by show 3 ≤ sizeLine; decide), fun u ou nu su tu => ?_⟩
      exact q _ u (s1.trans su) (.tup tu (.cons (.str _) (.cons (.tup (tp.same su) (dns_strs _)) (.cons (dn_o _) .nil))))
    have c3 : ps.length ≠ 3 := fun z => c (decide_eq_true (by rw [List.length_map, z]; rfl))
    rw [itemOf_n c4 c3] at q
    refine ⟨_, rfl, L, _, rfl, SqL.of hL, (by rw [List.length_map]; omega), fun p o np sp tp => ?_⟩
    exact q _ p sp (.tup tp (dns_strs _))
def spChk (K : PySem.W.Frag) (C : Addr) : Sp := fun vs H Q E => ∃ (v : V) (d : PyData), vs = [v] ∧ Dn K H v d ∧ sml d = true ∧ (isItem d = true → ∀ H', Same H H' → Q .non H') ∧ (isItem d = false → Ro E C "value" v H)
theorem ok_chk {f C : Addr} {fd : FuncData} (F : Fun K "check_item" "check_item" s_check_item f fd) (R : Rz P w K mg base "InvalidItem" "value" C)
    (G_is_item : Fk P w K mg base CX0 5 "is_item" ["value"] (spItem K)) : FnOk P w K mg base (L2.CX P w) 6 f fd ["value"] (spChk K C) := by
  obtain ⟨fI, fdI, XI, GI, bI⟩ := R.ex
  refine F.okX sc_check_item (fun vs H Q E h => ?_) (fun cdv A outer s H vs Q E hr h => ?_)
  · obtain ⟨v, d, rfl, _⟩ := h
    rfl
  · obtain ⟨v, d, rfl, dn, sm, q1, q2⟩ := h
    refine ⟨_, (pss_one (ps_if (pt_not (pt_val (pe_callF G_is_item (hr.mono (by decide)) (by rfl) pass0 (pa_cons (pv 0) pa_nil))))
 (pss_one (ps_raise1 rfl (takes_of rfl rfl rfl rfl) XI R.ty GI (hr.mono (by decide)) bI (by rfl) R.gm (pa_cons (pv 0) pa_nil)))
 pss_nil)), ?_⟩
    refine ⟨_, rfl, v, d, rfl, dn, sm, fun H1 s1 => ⟨_, rfl, ?_⟩⟩
    cases c : isItem d with
    | true => exact iteF (q1 c _ s1)
    | false =>
      refine iteT ⟨_, rfl, v, rfl, fun dx nd => ?_⟩
      exact q2 c _ dx (s1.trans (same_upd nd)) upd_same
/-! ### the written form -/
/-- a part that str turns into its text -/
def flatP (d : PyData) : Prop := (∃ x, d = .str x ∧ x.length ≤ 20) ∨ ∃ i : Nat, d = .int (i : Int) ∧ i ≤ 1000
theorem flatP_len {d : PyData} (h : flatP d) : (dText d).length ≤ 20 := by
  rcases h with ⟨x, rfl, l⟩ | ⟨i, rfl, l⟩
  · exact l
  · exact Nat.le_trans (numS_len (k := 4) (by decide) (by show i < 10000; omega)) (by decide)
theorem msg_flat {w x : Str} {b : Nat} (hw : isHost (.str w) = true) (hx : isWord (.str x) = true) (hb : b < 2) : ∀ d ∈ ([.str "message", .str w, .str x, .int (b : Int)] : List PyData), flatP d := fun d hd => by
  simp only [List.mem_cons, List.not_mem_nil, or_false] at hd
  rcases hd with rfl | rfl | rfl | rfl
  · exact .inl ⟨_, rfl, by decide⟩
  · exact .inl ⟨_, rfl, by have := (host_in hw).2.1; omega⟩
  · exact .inl ⟨_, rfl, by have := (word_in hx).2.1; omega⟩
  · exact .inr ⟨_, rfl, by omega⟩
theorem bye_flat : ∀ d ∈ ([.str "bye"] : List PyData), flatP d := fun d hd => by
  rw [List.mem_singleton] at hd
  subst hd
  exact .inl ⟨_, rfl, by decide⟩
theorem kind_kinds {k : Str} (h : k ∈ KINDS) : isKind (.str k) = true := decide_eq_true h
def spIT (K : PySem.W.Frag) (C : Addr) : Sp := fun vs H Q E => ∃ (v : V) (d : PyData), vs = [v] ∧ Dn K H v d ∧ sml d = true ∧ (isItem d = true → ∀ H', Same H H' → Q (.str (itText d)) H') ∧ (isItem d = false → Ro E C "value" v H)
theorem ok_it {f C : Addr} {fd : FuncData} (F : Fun K "item_text" "item_text" s_item_text f fd) (Y : Bn mg) (G_check_item : Fk P w K mg base (L2.CX P w) 6 "check_item" ["value"] (spChk K C)) (G_is_control_kind : Fk P w K mg base CX0 1 "is_control_kind" ["value"] (spKind K))
    (G_relink_text : Fk P w K mg base CX0 1 "relink_text" ["relink"] spRT) : FnOk P w K mg base (L2.CX P w) 7 f fd ["item"] (spIT K C) := by
  refine F.okX sc_item_text (fun vs H Q E h => ?_) (fun cdv A outer s H vs Q E hr h => ?_)
  · obtain ⟨v, d, rfl, _⟩ := h
    rfl
  · obtain ⟨v, d, rfl, dn, sm, q1, q2⟩ := h
    refine ⟨_, (pss_cons (ps_expr (pe_callF G_check_item (hr.mono (by decide)) (by rfl) (passes_call (E := E) (takes_of rfl rfl rfl rfl) (fun _ _ _ _ h => h)) (pa_cons (pv 0) pa_nil)))
 (pss_cons (ps_if (pt_not (pt_val (pe_callF G_is_control_kind (hr.mono (by decide)) (by rfl) pass0 (pa_cons (pe_ix ix_tup (pv 0) pe_int (fun _ _ => rfl)) pa_nil))))
 (pss_one (ps_ret (pe_join pe_str (pe_lc (own := [("part", 1)]) (g := gName 1) (tt := tYes) rfl sc_item_text.nd (pi_tup (pv 0)) (blkOk_by (N := ["item", "part"]) (sc := defScope s_item_text) (by decide +kernel)) (fun _ _ _ _ _ => (pg_name (i := 1) sc_item_text.nd rfl (Or.inl rfl))) (fun _ _ _ _ _ => pts_nil) (fun _ _ _ _ _ => (pe_callTy call_strSI (by rfl) Y.str (by decide +kernel) (pa_cons (pv 1) pa_nil)))))))
 pss_nil)
 (pss_one (ps_ret (pe_joined (.cons (pe_fmt (pe_ix ix_tup (pv 0) pe_int (fun _ _ => rfl))) (.cons pe_str (.cons (pe_fmt (pe_callF G_relink_text (hr.mono (by decide)) (by rfl) pass0 (pa_cons (pe_slice sl_cutA (pv 0) (po_some pe_int) po_none) pa_nil))) .nil)))))))), ?_⟩
    refine ⟨_, rfl, v, d, rfl, dn, sm, fun ii H1 s1 => ?_, q2⟩
    have q := q1 ii
    have ic := it_cases ii
    have alt : (∃ (a : Addr) (xs : List V) (k : Str) (ds : List PyData), v = .ref a ∧ d = .tuple (.str k :: ds) ∧ Tz H a xs ∧ Dns K H xs (.str k :: ds) ∧ (∀ e ∈ PyData.str k :: ds, flatP e) ∧ ds.length ≤ 10 ∧ isKind (.str k) = false ∧ itText (.tuple (.str k :: ds)) = Txt.join " " ((PyData.str k :: ds).map dText)) ∨
        ∃ (k : Str) (xs : List Str) (c : Nat), d = .tuple [.str k, .tuple (xs.map PyData.str), .int (c : Int)] ∧ k ∈ KINDS ∧ 3 ≤ xs.length ∧ c + 2 ≤ xs.length ∧ (xs.map PyData.str).all isHost = true := by
      cases ic with
      | msg w' x b hw hx hb =>
        cases dn with
        | tup ha hd => exact .inl ⟨_, _, "message", _, rfl, rfl, ha, hd, msg_flat hw hx hb, (by show 3 ≤ 10; decide), by decide +kernel, rfl⟩
      | bye =>
        cases dn with
        | tup ha hd => exact .inl ⟨_, _, "bye", _, rfl, rfl, ha, hd, bye_flat, by decide, by decide +kernel, rfl⟩
      | ctl k xs c hk l3 cl ah => exact .inr ⟨k, xs, c, rfl, hk, l3, cl, ah⟩
    rcases alt with ⟨a, xs, k, ds, rfl, rfl, ha, hd, fl, l10, nk, et⟩ | ⟨k, xs, c, rfl, hk, l3, cl, ah⟩
    · cases hd with
      | @cons x xs _ _ h0 hd =>
      have ha1 := ha.same s1
      have hd1 := (Dns.cons h0 hd).same s1
      have el := Dns.len hd
      refine ⟨_, rfl, a, _, 0, x, rfl, rfl, ha1.sq, atI_nat (j := 0) rfl, x, _, rfl, h0.same s1, _, rfl, ?_⟩
      rw [nk]
      refine iteT ?_
      refine ⟨⟨_, rfl⟩, _, rfl, a, rfl, ⟨_, ha1.sq⟩, fun D hD => ?_⟩
      refine lc_it (walk_tup (K := K) (a := a) (xs := x :: xs)) (fun i H' => Same H1 H' ∧ H' D = some (.lst ((((PyData.str k :: ds).take i).map dText).map V.str))) ⟨same_upd hD, upd_same⟩ (fun i H' _ h => (ha1.same h.1).sq) ?_ ?_
      · rintro i y H2 H3 hi ⟨s2, hL⟩ ⟨rfl, hy⟩
        obtain ⟨di, hdi, dni⟩ := Dns.get hd1 hy
        refine ⟨rfl, ?_⟩
        dsimp only [tYes]
        refine iteT ?_
        have lz : ((((PyData.str k :: ds).take i).map dText).map V.str).length < sizeLine := by
          rw [List.length_map, List.length_map, List.length_take, List.length_cons]
          exact small200 (by omega)
        have ez : (((PyData.str k :: ds).take (i + 1)).map dText).map V.str = (((PyData.str k :: ds).take i).map dText).map V.str ++ [V.str (dText di)] := by
          rw [List.take_add_one, hdi, List.map_append, List.map_append]
          rfl
        rcases fl di (List.mem_of_getElem? hdi) with ⟨z, rfl, lz'⟩ | ⟨j, rfl, lj⟩
        · cases dni
          refine ⟨_, rfl, .inl ⟨z, rfl, _, hL, lz, same_upd2 s2 hD, ?_⟩⟩
          rw [upd_same, ez]
          rfl
        · cases dni
          refine ⟨_, rfl, .inr ⟨_, rfl, log2_small (i := j) (k := 10) (by show j < 1024; omega) (by decide), _, hL, lz, same_upd2 s2 hD, ?_⟩⟩
          rw [upd_same, ez]
          rfl
      · rintro H2 ⟨s2, hL⟩
        have eT : (PyData.str k :: ds).take (x :: xs).length = PyData.str k :: ds := List.take_of_length_le (by rw [List.length_cons, List.length_cons, el]; exact Nat.le_refl _)
        rw [eT] at hL
        refine ⟨_, D, _, rfl, rfl, .inl (SqL.of hL), ?_, ?_⟩
        · have z : (((PyData.str k :: ds).map dText).map (·.length)).sum ≤ ((PyData.str k :: ds).map dText).length * 20 := sum_le fun y hy => by
            obtain ⟨e, he, rfl⟩ := List.mem_map.mp hy
            exact flatP_len (fl e he)
          have y : ((" ": Str)).length = 1 := rfl
          rw [y, List.length_map, List.length_cons] at *
          omega
        · rw [et] at q
          exact q _ (s1.trans s2)
    · cases dn with
      | @tup a vs _ ha hd =>
      cases hd with
      | @cons x0 _ _ _ h0 hd =>
      cases h0
      cases hd with
      | @cons x1 _ _ _ h1 hd =>
      cases hd with
      | @cons x2 _ _ _ h2 hd =>
      cases hd
      cases h2
      cases h1 with
      | @tup b ys _ hb hx =>
      have ex := Dns.txts hx
      subst ex
      have ha1 := ha.same s1
      have hb1 := hb.same s1
      have l14 : xs.length ≤ 700 := by
        have z : (decide (3 ≤ 660) && (decide (k.length ≤ 640) && ((decide ((xs.map PyData.str).length ≤ 660) && smls (xs.map PyData.str)) && (true && true)))) = true := sm
        simp only [Bool.and_eq_true, decide_eq_true_eq, List.length_map] at z
        have := z.2.2.1.1
        omega
      refine ⟨_, rfl, a, _, 0, _, rfl, rfl, ha1.sq, atI_nat (j := 0) rfl, _, _, rfl, .str k, _, rfl, ?_⟩
      rw [kind_kinds hk]
      refine iteF ?_
      refine ⟨_, rfl, a, _, 0, _, rfl, rfl, ha1.sq, atI_nat (j := 0) rfl, .inl ⟨k, rfl, le400 (by have := (kinds_no hk).2; omega), ?_⟩⟩
      have lk := (kinds_no hk).2
      refine ⟨k, rfl, (by rw [str_app_empty]; exact le400 (by omega)), ?_⟩
      refine ⟨_, rfl, (by rw [str_app_empty, len_app]; exact le400 (by show _ + 1 ≤ _; omega)), ?_⟩
      refine ⟨_, rfl, 1, rfl, a, _, rfl, ha1, ?_⟩
      rw [cut1]
      have jl : (Txt.join "," xs).length ≤ 700 * (8 + 1) := joinLen (fun x hx => (host_in (hosts_in ah x hx)).2.1) l14 rfl
      have lN : (numS c).length ≤ 4 := numS_len (by decide) (by show c < 10000; omega)
      refine ⟨fun z => ?_, fun p o np sp tp => ?_⟩
      · have z := congrArg List.length z
        simp at z
      · refine ⟨p, b, xs, c, rfl, tp, hb1.same sp, fun x hx => (host_in (hosts_in ah x hx)).2.1, by omega, by omega, ?_⟩
        refine .inl ⟨_, rfl, (by rw [len_app, len_app]; exact le400 (by show _ + 1 + _ ≤ _; omega)), ?_⟩
        refine ⟨_, rfl, (by rw [str_app_empty, len_app, len_app, len_app, len_app]; exact le400 (by show _ + 1 + (_ + 1 + _) ≤ _; omega)), ?_⟩
        have et : Str.empty ++ k ++ " " ++ (Txt.join "," xs ++ " " ++ numS c) = itText (.tuple [.str k, .tuple (xs.map PyData.str), .int (c : Int)]) := by
          show _ = Txt.join " " [k, Txt.join "," (txts (xs.map PyData.str)), numS c]
          rw [txts_map, join3, str_app_empty, ← str_assoc, ← str_assoc]
        rw [← et] at q
        exact q _ (s1.trans sp)
def spPa (K : PySem.W.Frag) (C : Addr) : Sp := fun vs H Q E => ∃ (v : V) (d : PyData), vs = [v] ∧ Dn K H v d ∧
  (∀ x, d = .str x → x.length ≤ 900 ∧ sml (itemOf (Txt.split x " ")) = true ∧ (isItem (itemOf (Txt.split x " ")) = true → ∀ H' t, Same H H' → Dn K H' (.ref t) (itemOf (Txt.split x " ")) → Q (.ref t) H') ∧ (isItem (itemOf (Txt.split x " ")) = false → Ro E C "value" v H)) ∧ ((∀ x, d ≠ .str x) → Ro E C "value" v H)
theorem ok_pa {f C : Addr} {fd : FuncData} (F : Fun K "parse_item" "parse_item" s_parse_item f fd) (Y : Bn mg) (R : Rz P w K mg base "InvalidText" "value" C) (G_item_from : Fk P w K mg base CX0 3 "item_from" ["parts"] (spIF K))
    (G_is_item : Fk P w K mg base CX0 5 "is_item" ["value"] (spItem K)) : FnOk P w K mg base (L2.CX P w) 6 f fd ["text"] (spPa K C) := by
  obtain ⟨fI, fdI, XI, GI, bI⟩ := R.ex
  refine F.okX sc_parse_item (fun vs H Q E h => ?_) (fun cdv A outer s H vs Q E hr h => ?_)
  · obtain ⟨v, d, rfl, _⟩ := h
    rfl
  · obtain ⟨v, d, rfl, dn, q1, q2⟩ := h
    refine ⟨_, (pss_cons (ps_if (pt_not (pt_val (pe_callB call_isi (by rfl) Y.isinstance (by decide +kernel) (pa_cons (pv 0) (pa_cons (pe_bltn (v := .ty "str") (by rfl) Y.str (by decide +kernel) rfl) pa_nil)))))
 (pss_one (ps_raise1 rfl (takes_of rfl rfl rfl rfl) XI R.ty GI (hr.mono (by decide)) bI (by rfl) R.gm (pa_cons (pv 0) pa_nil)))
 pss_nil)
 (pss_cons (ps_set (i := 1) sc_parse_item.nd rfl (.inl rfl) (pe_callF G_item_from (hr.mono (by decide)) (by rfl) pass0 (pa_cons (pe_split (pv 0) pe_str) pa_nil)))
 (pss_cons (ps_if (pt_not (pt_val (pe_callF G_is_item (hr.mono (by decide)) (by rfl) pass0 (pa_cons (pv 1) pa_nil))))
 (pss_one (ps_raise1 rfl (takes_of rfl rfl rfl rfl) XI R.ty GI (hr.mono (by decide)) bI (by rfl) R.gm (pa_cons (pv 0) pa_nil)))
 pss_nil)
 (pss_one (ps_ret (pv 1)))))), ?_⟩
    rcases str_or dn with ⟨x, rfl, rfl⟩ | ⟨no, t, ty, kt⟩
    · obtain ⟨l9, sm, qa, qb⟩ := q1 x rfl
      refine ⟨_, rfl, _, _, _, _, true, rfl, .ty "str", .base (.str x), kit_ty (by decide +kernel), _, rfl, iteF ?_⟩
      have sl := PyProof.Rows.split_le x " "
      refine ⟨_, rfl, ⟨_, rfl⟩, _, _, rfl, rfl, rfl, le400 (by omega), fun L nL => ?_⟩
      generalize hg : upd _ L _ = H1
      obtain ⟨s1, g1⟩ := (show Same H H1 ∧ H1 L = some (.lst ((Txt.split x " ").map V.str)) by rw [← hg]; exact ⟨same_upd nL, upd_same⟩)
      clear hg
      refine ⟨L, _, rfl, g1, by omega, fun p hp => Nat.le_trans (part_le x hp) l9, fun H2 t s2 dt => ?_⟩
      have s12 := s1.trans s2
      refine ⟨_, rfl, _, _, rfl, dt, sm, fun H3 s3 => ⟨_, rfl, ?_⟩⟩
      cases c : isItem (itemOf (Txt.split x " ")) with
      | true => exact iteF ⟨_, rfl, qa c _ t (s12.trans s3) (dt.same s3)⟩
      | false =>
        refine iteT ⟨_, rfl, _, rfl, fun dx nd => ?_⟩
        exact qb c _ dx ((s12.trans s3).trans (same_upd nd)) upd_same
    · refine ⟨v, rfl, v, _, _, _, false, rfl, .ty "str", ty, kit_ty kt, _, rfl, iteT ?_⟩
      refine ⟨_, rfl, v, rfl, fun dx nd => ?_⟩
      exact q2 no _ dx (same_upd nd) upd_same
end
end My

/-! A tuple turned about: t[::-1]. Tuples, and any value, compared. -/
namespace Xt
open PySem PySem.Spec PyProof.Rows L2 Gy
theorem back_ends (n : Nat) : Builtin.Slice.sliceAdjust none none (-1) (n : Int) = ((n : Int) - 1, -1) := rfl
theorem back_places (n : Nat) : Builtin.Slice.slicePlaces ((n : Int) - 1) (-1) (-1) = n := by
  unfold Builtin.Slice.slicePlaces
  rw [if_neg (by decide)]
  by_cases h : n = 0
  · subst h
    rfl
  · rw [if_pos (by omega), show (- -1 : Int) = 1 from rfl, Int.ediv_one]
    omega
theorem back_pick (xs : Array Value) : ((List.range xs.size).filterMap fun (m : Nat) => xs[(((xs.size : Int) - 1) + (m : Int) * (-1)).toNat]?).toArray = xs.toList.reverse.toArray := by
  congr 1
  refine List.ext_getElem? fun i => ?_
  have key : ∀ k, k ≤ xs.size → (List.range k).filterMap (fun (m : Nat) => xs[(((xs.size : Int) - 1) + (m : Int) * (-1)).toNat]?) = xs.toList.reverse.take k := by
    intro k
    induction k with
    | zero => intro _; rfl
    | succ k ih =>
      intro hk
      have lt : xs.size - 1 - k < xs.size := by omega
      have e : (((xs.size : Int) - 1) + (k : Int) * (-1)).toNat = xs.size - 1 - k := by omega
      have g : xs.toList.reverse[k]? = some xs[xs.size - 1 - k] := by
        have l : k < xs.toList.reverse.length := by
          rw [List.length_reverse, Array.length_toList]
          omega
        rw [List.getElem?_eq_getElem l, List.getElem_reverse]
        simp
      rw [List.range_succ, List.filterMap_append, ih (by omega), List.take_add_one, g]
      congr 1
      rw [List.filterMap_cons_some (b := xs[xs.size - 1 - k]) (by rw [e]; exact Array.getElem?_eq_getElem lt)]
      rfl
  rw [key xs.size (Nat.le_refl _), List.take_of_length_le (by rw [List.length_reverse, Array.length_toList]; exact Nat.le_refl _)]
section
variable {prog : Program} {w : World} {A : Around} {E : Value → Shared → Prop} {s : Shared}
theorem applied_back {sl : Addr} {vl vu vs : Value} {n : Nat} {Q : Int × Int × Nat → Shared → Prop} (hs : s.heap.IsSliceOf sl vl vu vs) (pl : IsPart vl none) (pu : IsPart vu none) (ps : IsPart vs (some (-1)))
    (h : Q ((n : Int) - 1, -1, n) s) : wpAny (model prog w) A (Builtin.Slice.sliceApplied (.ref sl) (pure (n : Int))) Q E s := by
  obtain ⟨o, e1, e2, e3⟩ := id hs
  unfold Builtin.Slice.sliceApplied Builtin.Slice.sliceFields
  refine wpAny_bind (wpAny_bind (wpAny_field e1 e3 (x := vl) rfl ?_))
  refine wpAny_bind (wpAny_field e1 e3 (x := vu) rfl ?_)
  refine wpAny_bind (wpAny_field e1 e3 (x := vs) rfl (wpAny_pure ?_))
  refine wpAny_bind (HT.slicePart_ ps ?_)
  show wpAny _ _ (if ((-1 : Int) == 0) = true then _ else _) _ _ s
  rw [if_neg (by decide)]
  refine wpAny_bind (HT.slicePart_ pl ?_)
  refine wpAny_bind (HT.slicePart_ pu ?_)
  refine wpAny_bind (wpAny_pure ?_)
  show wpAny _ _ (pure ((Builtin.Slice.sliceAdjust none none (-1) (n : Int)).1, (-1 : Int), Builtin.Slice.slicePlaces (Builtin.Slice.sliceAdjust none none (-1) (n : Int)).1 (Builtin.Slice.sliceAdjust none none (-1) (n : Int)).2 (-1))) _ _ s
  rw [back_ends, back_places]
  exact wpAny_pure h
theorem item_back {t sl : Addr} {items : Array Value} {vl vu vs : Value} {Q : Value → Shared → Prop} (ht : IsTup s.heap t items) (hs : s.heap.IsSliceOf sl vl vu vs) (pl : IsPart vl none) (pu : IsPart vu none) (ps : IsPart vs (some (-1)))
    (h : Q (.ref s.heap.objs.size) { s with heap := s.heap.push { cls := .type "tuple", data := .seq items.toList.reverse.toArray } }) (hz : items.size ≤ sizeLine) : wpAny (model prog w) A (getItem (.ref t) (.ref sl)) Q E s := by
  have fits : sizeOk (.seq items.toList.reverse.toArray) := by
    show items.toList.reverse.toArray.size ≤ sizeLine
    rw [List.size_toArray, List.length_reverse, Array.length_toList]
    exact hz
  obtain ⟨o, e1, e2, e3⟩ := id hs
  have ty : s.TypeIs (.ref sl) "slice" := ⟨o, e1, e2⟩
  unfold getItem
  try with_reducible refine wpAny_holding ?_
  first
    | refine wpAny_bind (wpAny_pure ?_)
    | skip
  refine wpAny_bind (wpAny_sequenceKey ht.typeIs (by decide) ?_)
  refine wpAny_bind (wpAny_callSpecial?_slot (name := Str.ofString "__getitem__") ht.typeIs PyProof.Rows.slot_tuple_getitem (wpAny_call_entry PyProof.Rows.slot_tuple_getitem ht.typeIs entry_tuple_getitem ?_ (args_tuple_getitem _ _)))
  refine (?_ : wpAny _ _ (Builtin.Tuple.tupleItemsOf (.ref t) >>= _) _ _ s)
  refine wpAny_bind (tupleItemsOf_ ht ?_)
  refine wpAny_bind (wpAny_typeOf ty ?_)
  rw [if_pos (by decide)]
  refine wpAny_bind (applied_back hs pl pu ps ?_)
  have no : ¬ ((((items.size : Int) - 1) == 0 && (-1 : Int) == 1 && items.size == items.size) = true) := fun q => by
    rw [Bool.and_eq_true, Bool.and_eq_true] at q
    exact absurd q.1.2 (by decide)
  refine (?_ : wpAny _ _ (if (((items.size : Int) - 1) == 0 && (-1 : Int) == 1 && items.size == items.size) = true then _ else _) _ _ s)
  rw [if_neg no, back_pick]
  first
    | exact wpAny_bind (m := Builtin.Tuple.tupleExact _) (wpAny_newObj_type (wpAny_pure ⟨_, rfl, wpAny_pure h⟩) fits)
    | exact wpAny_bind (wpAny_bind (m := Builtin.Tuple.tupleExact _) (wpAny_newObj_type (wpAny_pure (wpAny_pure ⟨_, rfl, wpAny_pure h⟩)) fits))
    | exact wpAny_bind (wpAny_bind (m := Builtin.Tuple.tupleExact _) (wpAny_newObj_type (wpAny_pure ⟨_, rfl, wpAny_pure h⟩) fits))
end
section
variable {X : Cx}
/-- t[::-1] -/
def tRevT (K : PySem.W.Frag) (te : TE) : TE := fun σ H Q => te σ H fun x H1 => ∃ a xs, x = .ref a ∧ SqT K H1 a xs ∧ NewT xs.reverse H1 Q
theorem pe_revT {e : Expr} {te : TE} {k : Nat} {p1 p2 p3 pos : Pos} (he : PE X e te) : PE X (.Subscript e (.Slice none none (some (.UnaryOp .USub (.Constant (.int 1) k p1) p2)) p3) pos) (tRevT X.K te) := by
  constructor
  intro pins s σ H Q I h
  refine Subscript_ (thn (he.run pins s σ H _ I h) ?_)
  rintro v s1 ⟨x, H1, I1, r1, a, xs, rfl, hx, q⟩
  cases r1
  have hst : PO X (some (.UnaryOp .USub (.Constant (.int 1) k p1) p2)) (tPart (tUn (rU fun i => .int (-i)) (tC (.int 1)))) := po_some (pe_un un_neg pe_int)
  refine wpAny_Slice (thn (po_none.run pins s1 σ H1 (fun o H2 => o = none ∧ H2 = H1) I1 ⟨rfl, rfl⟩) ?_)
  rintro vl s2 ⟨l, H2, I2, pl, rfl, rfl⟩
  refine thn (po_none.run pins s2 σ H2 (fun o H3 => o = none ∧ H3 = H2) I2 ⟨rfl, rfl⟩) ?_
  rintro vu s3 ⟨u, H3, I3, pu, rfl, rfl⟩
  refine thn (hst.run pins s3 σ H3 (fun o H4 => o = some (-1) ∧ H4 = H3) I3 ⟨1, rfl, -1, rfl, rfl, rfl⟩) ?_
  rintro vs s4 ⟨o, H4, I4, ps, rfl, rfl⟩
  have I5 : Inv X pins σ H4 { s4 with heap := s4.heap.push { cls := .type "slice", data := .fields #[vl, vu, vs] } } := I4.kept (t' := s4.toks) fun b ob z => Heap.get?_push_of_some _ z
  obtain ⟨its, r, ht, hz⟩ := I5.tuple hx
  have len := r.length
  refine (?_ : wpAny (model X.prog X.w) X.A (subscriptTail e _ (.ref a) (.ref s4.heap.objs.size)) (EP X pins σ Q) X.xe _)
  refine tail_any (ops := [.ref a, .ref s4.heap.objs.size]) ht.typeIs (PyProof.Rows.slot_tuple_getitem.lookup) ?_ (by with_unfolding_all rfl)
  refine item_back ht (Heap.IsSliceOf.new _ vl vu vs) pl pu ps ?_ (by rw [List.size_toArray]; omega)
  exact lay_new (n := 0) I5 (by rw [List.length_reverse]; exact hz) r.reverse q
/-- t == u, t != u: one of them has no items -/
def rEmT (K : PySem.W.Frag) (f : Bool → Bool) : R2 := fun x y H Q => ∃ a b xs, x = .ref a ∧ y = .ref b ∧ SqT K H a xs ∧ SqT K H b [] ∧ Q (.bl (f xs.isEmpty)) H
theorem op_eqEmT (hu : X.A.units < cLine) : OpR X (compareOp .Eq) (rEmT X.K id) := by
  intro pins s σ H x y v u Q I rx ry h
  obtain ⟨a, b, xs, rfl, rfl, ha, hb, q⟩ := h
  cases rx
  cases ry
  obtain ⟨i1, r1, t1, _⟩ := I.tuple ha
  obtain ⟨i2, r2, t2, _⟩ := I.tuple hb
  cases r2
  refine SeqAt.eq_tupleAt (e := fun _ => true) t1 t2 hu (fun j h1 h2 => absurd h2 (Nat.not_lt_zero j)) ?_
  refine ⟨.bl (id xs.isEmpty), H, I, ?_, q⟩
  have l := r1.length
  cases xs with
  | nil =>
    cases r1
    rfl
  | cons y ys =>
    cases i1 with
    | nil => cases l
    | cons z zs => rfl
theorem op_neEmT (hu : X.A.units < cLine) : OpR X (compareOp .NotEq) (rEmT X.K not) := by
  intro pins s σ H x y v u Q I rx ry h
  obtain ⟨a, b, xs, rfl, rfl, ha, hb, q⟩ := h
  cases rx
  cases ry
  obtain ⟨i1, r1, t1, _⟩ := I.tuple ha
  obtain ⟨i2, r2, t2, _⟩ := I.tuple hb
  cases r2
  refine SeqAt.RcNeAt.tuples (e := fun _ => true) t1 t2 hu (fun j h1 h2 => absurd h2 (Nat.not_lt_zero j)) _ _ _ _ ?_
  refine ⟨.bl (not xs.isEmpty), H, I, ?_, q⟩
  have l := r1.length
  cases xs with
  | nil =>
    cases r1
    rfl
  | cons y ys =>
    cases i1 with
    | nil => cases l
    | cons z zs => rfl
end
end Xt
namespace Xt
open PySem PySem.Spec PyProof.Rows L2 Gy
/-- l == []: a list and one without items -/
def rEmL (K : PySem.W.Frag) : R2 := fun x y H Q => ∃ a b xs, x = .ref a ∧ y = .ref b ∧ SqL K H a xs ∧ SqL K H b [] ∧ Q (.bl xs.isEmpty) H
theorem op_eqEmL {X : Cx} (hu : X.A.units < cLine) : OpR X (compareOp .Eq) (rEmL X.K) := by
  intro pins s σ H x y v u Q I rx ry h
  obtain ⟨a, b, xs, rfl, rfl, ha, hb, q⟩ := h
  cases rx
  cases ry
  obtain ⟨i1, r1, t1, _⟩ := I.list ha
  obtain ⟨i2, r2, t2, _⟩ := I.list hb
  cases r2
  cases xs with
  | nil =>
    cases r1
    exact SeqAt.eq_listAt (e := fun _ => true) t1.isList t2.isList rfl hu (fun j h1 h2 => absurd h2 (Nat.not_lt_zero j)) ⟨.bl true, H, I, rfl, q⟩
  | cons y ys =>
    cases r1 with
    | cons h t =>
      exact SeqAt.eq_list_lengthsAt t1.isList t2.isList (by simp) hu ⟨.bl false, H, I, rfl, q⟩
end Xt

/-! v == text, for any value of data. -/
namespace Gy
open PySem PySem.Spec PyProof.Rows L2 Xt
theorem dict_no_str (l : Addr) (es : Array DictEntry) (ep : Nat) (dd : Option Addr) (sl : Array (Option Value)) (b : Str) (u : Tok) :
    Meets (Builtin.«dict.__eq__» ⟨[.ref l, .str b u], []⟩) (fun _ R s => s.heap.get? l = some ⟨.type "dict", dd, .dict es ep, sl⟩ ∧ R (.ok (.ret .notImplemented)) s) := by
  refine .of_wp fun prog w A R s h => ?_
  obtain ⟨hp, g, d, tk, os⟩ := s
  obtain ⟨hl, h⟩ := h
  have f1 : isSubtype (.type "str") (.type "dict") = pure false := by rw [isSubtype_type]; kernel_rfl
  wp_walk using wpAny_loadPart' hl, wpAny_load hl
  exact ⟨_, rfl, h⟩
theorem str_no_dict (l : Addr) (es : Array DictEntry) (ep : Nat) (dd : Option Addr) (sl : Array (Option Value)) (b : Str) (u : Tok) :
    Meets (Builtin.«str.__eq__» ⟨[.str b u, .ref l], []⟩) (fun _ R s => s.heap.get? l = some ⟨.type "dict", dd, .dict es ep, sl⟩ ∧ R (.ok (.ret .notImplemented)) s) := by
  refine .of_wp fun prog w A R s h => ?_
  obtain ⟨hp, g, d, tk, os⟩ := s
  obtain ⟨hl, h⟩ := h
  wp_walk using wpAny_loadPart' hl, wpAny_load hl
  exact ⟨_, rfl, h⟩
theorem rc_dict_str {A : Around} {s : Shared} {l : Addr} {o : Obj} {es : Array DictEntry} {ep : Nat} (b : Str) (u : Tok) (ho : s.heap.get? l = some o) (hc : o.cls = .type "dict") (hd : o.data = .dict es ep) (hu : A.units < cLine)
    {prog : Program} {w : World} {E Q : Value → Shared → Prop} (h : Q (.bool false) s) : wpAny (model prog w) A (richCompare .Eq (.ref l) (.str b u)) Q E s := by
  obtain ⟨cls, dd, dat, sl⟩ := o
  dsimp only at hc hd
  subst hc hd
  refine SeqAt.rc_eq_decline_or (k := false) ⟨_, ho, rfl⟩ (typeIs_str s b u) (by decide) F.sub_str_dict F.slot_dict_eq F.slot_str_eq_refl ?_ ?_ ?_ (.inr hu) h
  · exact fun _ q => call_meets F.slot_dict_eq ⟨_, ho, rfl⟩ F.entry_dict_eq (F.args_dict_eq_2 _ _) (dict_no_str l es ep dd sl b u) ⟨ho, q⟩
  · exact fun _ q => call_meets F.slot_str_eq_refl (typeIs_str s b u) F.entry_str_eq (F.args_str_eq_2 _ _) (str_no_dict l es ep dd sl b u) ⟨ho, q⟩
  · exact fun _ q => wpAny_of_eq (rfl : isSame (.ref l) (.str b u) = pure false) q
/-- whether it is this text -/
def isTx (x : Str) : PyData → Bool
  | .str y => decide (V.str y = V.str x)
  | _ => false
def rEqS (K : PySem.W.Frag) : R2 := fun a b H Q => ∃ (d : PyData) (x : Str), b = .str x ∧ Dn K H a d ∧ Q (.bl (isTx x d)) H
theorem op_eqS {X : Cx} (hu : X.A.units < cLine) : OpR X (compareOp .Eq) (rEqS X.K) := by
  intro pins s σ H a b v u Q I rx ry h
  obtain ⟨d, x, rfl, dn, q⟩ := h
  cases dn with
  | non => exact op_eq pins s σ H _ _ v u Q I rx ry ⟨rfl, q⟩
  | bl c => exact op_eq pins s σ H _ _ v u Q I rx ry ⟨rfl, q⟩
  | int i => exact op_eq pins s σ H _ _ v u Q I rx ry ⟨rfl, q⟩
  | str y => exact op_eq pins s σ H _ _ v u Q I rx ry ⟨rfl, q⟩
  | lst h1 _ =>
    cases rx
    obtain ⟨t, rfl⟩ := ry
    obtain ⟨its, _, hl, _⟩ := I.list (SqL.of h1)
    exact SeqAt.RcAt.list_str x t hl.isList hu _ _ _ _ ⟨.bl false, H, I, rfl, q⟩
  | tup h1 _ =>
    cases rx
    obtain ⟨t, rfl⟩ := ry
    obtain ⟨its, _, ht, _⟩ := I.tuple h1.sq
    exact SeqAt.RcAt.tuple_str x t ht hu _ _ _ _ ⟨.bl false, H, I, rfl, q⟩
  | dic h1 =>
    cases rx
    obtain ⟨t, rfl⟩ := ry
    obtain ⟨_, o, es, ep, g1, g2, g3, _, _⟩ := dict_at I h1
    exact rc_dict_str x t g1 g2 g3 hu ⟨.bl false, H, I, rfl, q⟩
end Gy

namespace My
open PySem PySem.Spec PyProof.Rows L2 Gy Xl Xs Xt
/-! ### the law's own checks -/
def rNoSg : R2 := fun x y H Q => ∃ (c : Nat) (z : Str), x = .str ⟨#[c]⟩ ∧ y = .str z ∧ Q (.bl (!decide (c ∈ z.cps.toList))) H
section
variable {P : Program} {w : World} {K : PySem.W.Frag} {mg : Str → Option Value} {base : Heap} {H : Hp}
def spIsName (K : PySem.W.Frag) : Sp := fun vs H Q _ => ∃ (v : V) (d : PyData), vs = [v] ∧ Dn K H v d ∧ sml d = true ∧ ∀ H', Same H H' → Q (.bl (isHost d)) H'
theorem ok_isName {f : Addr} {fd : FuncData} (F : Fun K "_law_is_name" "_law_is_name" s_law_is_name f fd) (Y : Bn mg) : FnOk P w K mg base CX0 1 f fd ["_law_thing"] (spIsName K) := by
  refine F.ok sc_law_is_name (fun vs H Q E h => ?_) (fun cdv A outer s H vs Q E hr h => ?_)
  · obtain ⟨v, d, rfl, _⟩ := h
    rfl
  · obtain ⟨v, d, rfl, dn, sm, q⟩ := h
    have hu0 := Nat.lt_of_le_of_lt (Nat.le_add_right _ 64) hr.units
    refine ⟨_, (pss_cons (ps_set (i := 1) sc_law_is_name.nd rfl (.inr rfl) pe_str)
 (pss_one (ps_ret (pe_and (pe_callB call_isi (by rfl) Y.isinstance (by decide +kernel) (pa_cons (pv 0) (pa_cons (pe_bltn (v := .ty "str") (by rfl) Y.str (by decide +kernel) rfl) pa_nil))) (pe_and (pe_chain op_lt op_lt pe_int (pe_callB call_len_str (by rfl) Y.len PySem.boot_len (pa_cons (pv 0) pa_nil)) pe_int) (pe_one (pe_cmpR (op_eqEmL hu0) (pe_lc (own := [("_law_sign", 2)]) (g := gName 2) (tt := tTest (tOp rNoSg (tVar 2) (tVar 1))) rfl sc_law_is_name.nd (pi_str (pv 0)) (blkOk_by (N := ["_law_thing", "_law_letters", "_law_sign"]) (sc := defScope s_law_is_name) (by decide +kernel)) (fun _ _ _ _ _ => (pg_name (i := 2) sc_law_is_name.nd rfl (Or.inl rfl))) (fun _ _ _ _ _ => (pts_one (pt_cmpR (show OpR _ _ rNoSg from op_notIn_sign) (pv 2) (pv 1) rfl))) (fun _ _ _ _ _ => (pv 2))) (pe_lst pa_nil) (nomark _)))))))), ?_⟩
    rcases str_or dn with ⟨x, rfl, rfl⟩ | ⟨no, t, ty, kt⟩
    · have lx : x.length ≤ 640 := by simpa only [sml, decide_eq_true_eq] using sm
      refine ⟨_, rfl, _, _, _, _, true, rfl, .ty "str", .base (.str x), kit_ty (by decide +kernel), _, rfl, iteT ?_⟩
      have e1 : isHost (.str x) = (decide ((1 : Int) ≤ (x.length : Int)) && decide ((x.length : Int) ≤ 8) && allIn LET x) := rfl
      rw [e1] at q
      refine ⟨_, rfl, _, rfl, le200 (by omega), 0, _, rfl, rfl, _, rfl, ?_⟩
      refine ite2 (fun c1 => ?_) (fun c1 => ?_)
      · have c1' : (0 : Int) < (x.length : Int) := of_decide_eq_true c1
        rw [decide_eq_true (show (1 : Int) ≤ (x.length : Int) by omega), Bool.true_and] at q
        refine ⟨_, _, rfl, rfl, _, rfl, ite2 (fun c2 => ?_) (fun c2 => ?_)⟩
        · have c2' : (x.length : Int) < 9 := of_decide_eq_true c2
          rw [decide_eq_true (show (x.length : Int) ≤ 8 by omega), Bool.true_and] at q
          refine ⟨_, rfl, x, rfl, fun D hD => ?_⟩
          refine lc_it (walk_str (z := x)) (fun i H' => Same H H' ∧ H' D = some (.lst (((x.cps.toList.take i).filter fun c => !decide (c ∈ (LET).cps.toList)).map fun c => V.str ⟨#[c]⟩)))
            ⟨same_upd hD, upd_same⟩ (fun _ _ _ _ => trivial) ?_ ?_
          · rintro i y H1 H2 hi ⟨sm1, hL⟩ ⟨rfl, c, hc, rfl⟩
            have hc' : x.cps.toList[i]? = some c := by rw [Array.getElem?_toList]; exact hc
            refine ⟨rfl, ?_⟩
            refine ⟨_, rfl, _, rfl, c, LET, rfl, rfl, _, rfl, ite2 (fun c3 => ?_) (fun c3 => ?_)⟩
            · refine ⟨_, rfl, _, hL, ?_, same_upd2 sm1 hD, ?_⟩
              · rw [List.length_map]
                refine small200 (Nat.le_trans (List.length_filter_le _ _) ?_)
                rw [List.length_take, Array.length_toList]
                have lx' : x.cps.size ≤ 640 := lx
                omega
              · rw [upd_same, List.take_add_one, hc', List.filter_append, List.map_append]
                show some (HO.lst _) = some (HO.lst (_ ++ (List.filter _ [c]).map _))
                rw [List.filter_cons_of_pos (by exact c3)]
                rfl
            · refine ⟨sm1, ?_⟩
              rw [hL, List.take_add_one, hc', List.filter_append]
              show some (HO.lst _) = some (HO.lst ((_ ++ List.filter _ [c]).map _))
              rw [List.filter_cons_of_neg (by exact c3), List.filter_nil, List.append_nil]
          · rintro H1 ⟨sm1, hL⟩
            refine ⟨(by show 0 ≤ sizeLine; decide), fun l nl => ?_⟩
            have s2 := same_upd (o := .lst []) nl
            refine ⟨D, l, _, rfl, rfl, SqL.of (s2 _ _ hL), SqL.of upd_same, ?_⟩
            have e2 : (((x.cps.toList.take x.cps.size).filter fun c => !decide (c ∈ (LET).cps.toList)).map fun c => V.str ⟨#[c]⟩).isEmpty = allIn LET x := by
              rw [List.take_of_length_le (by rw [Array.length_toList]; exact Nat.le_refl _), List.isEmpty_map]
              unfold allIn
              rw [Bool.eq_iff_iff, List.isEmpty_iff, List.filter_eq_nil_iff, List.all_eq_true]
              refine ⟨fun h c hc => ?_, fun h c hc => ?_⟩
              · have := h c hc
                simpa using this
              · have := h c hc
                simpa using this
            rw [e2]
            exact q _ (sm1.trans s2)
        · have c2' : ¬ (x.length : Int) < 9 := fun z => c2 (decide_eq_true z)
          rw [decide_eq_false (show ¬ (x.length : Int) ≤ 8 by omega), Bool.false_and] at q
          exact q _ (Same.refl _)
      · have c1' : ¬ (0 : Int) < (x.length : Int) := fun z => c1 (decide_eq_true z)
        rw [decide_eq_false (show ¬ (1 : Int) ≤ (x.length : Int) by omega), Bool.false_and, Bool.false_and] at q
        exact ⟨_, rfl, iteF (q _ (Same.refl _))⟩
    · refine ⟨v, rfl, v, _, _, _, false, rfl, .ty "str", ty, kit_ty kt, _, rfl, iteF ?_⟩
      have z : isHost d = false := by
        cases d with
        | str x => exact absurd rfl (no x)
        | _ => rfl
      rw [z] at q
      exact q _ (Same.refl _)
def spIsWord (K : PySem.W.Frag) : Sp := fun vs H Q _ => ∃ (v : V) (d : PyData), vs = [v] ∧ Dn K H v d ∧ sml d = true ∧ ∀ H', Same H H' → Q (.bl (isWord d)) H'
theorem ok_isWord {f : Addr} {fd : FuncData} (F : Fun K "_law_is_word" "_law_is_word" s_law_is_word f fd) (Y : Bn mg) : FnOk P w K mg base CX0 1 f fd ["_law_thing"] (spIsWord K) := by
  refine F.ok sc_law_is_word (fun vs H Q E h => ?_) (fun cdv A outer s H vs Q E hr h => ?_)
  · obtain ⟨v, d, rfl, _⟩ := h
    rfl
  · obtain ⟨v, d, rfl, dn, sm, q⟩ := h
    have hu0 := Nat.lt_of_le_of_lt (Nat.le_add_right _ 64) hr.units
    refine ⟨_, (pss_cons (ps_set (i := 1) sc_law_is_word.nd rfl (.inr rfl) pe_str)
 (pss_one (ps_ret (pe_and (pe_callB call_isi (by rfl) Y.isinstance (by decide +kernel) (pa_cons (pv 0) (pa_cons (pe_bltn (v := .ty "str") (by rfl) Y.str (by decide +kernel) rfl) pa_nil))) (pe_and (pe_chain op_lt op_lt pe_int (pe_callB call_len_str (by rfl) Y.len PySem.boot_len (pa_cons (pv 0) pa_nil)) pe_int) (pe_one (pe_cmpR (op_eqEmL hu0) (pe_lc (own := [("_law_sign", 2)]) (g := gName 2) (tt := tTest (tOp rNoSg (tVar 2) (tVar 1))) rfl sc_law_is_word.nd (pi_str (pv 0)) (blkOk_by (N := ["_law_thing", "_law_signs", "_law_sign"]) (sc := defScope s_law_is_word) (by decide +kernel)) (fun _ _ _ _ _ => (pg_name (i := 2) sc_law_is_word.nd rfl (Or.inl rfl))) (fun _ _ _ _ _ => (pts_one (pt_cmpR (show OpR _ _ rNoSg from op_notIn_sign) (pv 2) (pv 1) rfl))) (fun _ _ _ _ _ => (pv 2))) (pe_lst pa_nil) (nomark _)))))))), ?_⟩
    rcases str_or dn with ⟨x, rfl, rfl⟩ | ⟨no, t, ty, kt⟩
    · have lx : x.length ≤ 640 := by simpa only [sml, decide_eq_true_eq] using sm
      refine ⟨_, rfl, _, _, _, _, true, rfl, .ty "str", .base (.str x), kit_ty (by decide +kernel), _, rfl, iteT ?_⟩
      have e1 : isWord (.str x) = (decide ((1 : Int) ≤ (x.length : Int)) && decide ((x.length : Int) ≤ 12) && allIn WSG x) := rfl
      rw [e1] at q
      refine ⟨_, rfl, _, rfl, le200 (by omega), 0, _, rfl, rfl, _, rfl, ?_⟩
      refine ite2 (fun c1 => ?_) (fun c1 => ?_)
      · have c1' : (0 : Int) < (x.length : Int) := of_decide_eq_true c1
        rw [decide_eq_true (show (1 : Int) ≤ (x.length : Int) by omega), Bool.true_and] at q
        refine ⟨_, _, rfl, rfl, _, rfl, ite2 (fun c2 => ?_) (fun c2 => ?_)⟩
        · have c2' : (x.length : Int) < 13 := of_decide_eq_true c2
          rw [decide_eq_true (show (x.length : Int) ≤ 12 by omega), Bool.true_and] at q
          refine ⟨_, rfl, x, rfl, fun D hD => ?_⟩
          refine lc_it (walk_str (z := x)) (fun i H' => Same H H' ∧ H' D = some (.lst (((x.cps.toList.take i).filter fun c => !decide (c ∈ (WSG).cps.toList)).map fun c => V.str ⟨#[c]⟩)))
            ⟨same_upd hD, upd_same⟩ (fun _ _ _ _ => trivial) ?_ ?_
          · rintro i y H1 H2 hi ⟨sm1, hL⟩ ⟨rfl, c, hc, rfl⟩
            have hc' : x.cps.toList[i]? = some c := by rw [Array.getElem?_toList]; exact hc
            refine ⟨rfl, ?_⟩
            refine ⟨_, rfl, _, rfl, c, WSG, rfl, rfl, _, rfl, ite2 (fun c3 => ?_) (fun c3 => ?_)⟩
            · refine ⟨_, rfl, _, hL, ?_, same_upd2 sm1 hD, ?_⟩
              · rw [List.length_map]
                refine small200 (Nat.le_trans (List.length_filter_le _ _) ?_)
                rw [List.length_take, Array.length_toList]
                have lx' : x.cps.size ≤ 640 := lx
                omega
              · rw [upd_same, List.take_add_one, hc', List.filter_append, List.map_append]
                show some (HO.lst _) = some (HO.lst (_ ++ (List.filter _ [c]).map _))
                rw [List.filter_cons_of_pos (by exact c3)]
                rfl
            · refine ⟨sm1, ?_⟩
              rw [hL, List.take_add_one, hc', List.filter_append]
              show some (HO.lst _) = some (HO.lst ((_ ++ List.filter _ [c]).map _))
              rw [List.filter_cons_of_neg (by exact c3), List.filter_nil, List.append_nil]
          · rintro H1 ⟨sm1, hL⟩
            refine ⟨(by show 0 ≤ sizeLine; decide), fun l nl => ?_⟩
            have s2 := same_upd (o := .lst []) nl
            refine ⟨D, l, _, rfl, rfl, SqL.of (s2 _ _ hL), SqL.of upd_same, ?_⟩
            have e2 : (((x.cps.toList.take x.cps.size).filter fun c => !decide (c ∈ (WSG).cps.toList)).map fun c => V.str ⟨#[c]⟩).isEmpty = allIn WSG x := by
              rw [List.take_of_length_le (by rw [Array.length_toList]; exact Nat.le_refl _), List.isEmpty_map]
              unfold allIn
              rw [Bool.eq_iff_iff, List.isEmpty_iff, List.filter_eq_nil_iff, List.all_eq_true]
              refine ⟨fun h c hc => ?_, fun h c hc => ?_⟩
              · have := h c hc
                simpa using this
              · have := h c hc
                simpa using this
            rw [e2]
            exact q _ (sm1.trans s2)
        · have c2' : ¬ (x.length : Int) < 13 := fun z => c2 (decide_eq_true z)
          rw [decide_eq_false (show ¬ (x.length : Int) ≤ 12 by omega), Bool.false_and] at q
          exact q _ (Same.refl _)
      · have c1' : ¬ (0 : Int) < (x.length : Int) := fun z => c1 (decide_eq_true z)
        rw [decide_eq_false (show ¬ (1 : Int) ≤ (x.length : Int) by omega), Bool.false_and, Bool.false_and] at q
        exact ⟨_, rfl, iteF (q _ (Same.refl _))⟩
    · refine ⟨v, rfl, v, _, _, _, false, rfl, .ty "str", ty, kit_ty kt, _, rfl, iteF ?_⟩
      have z : isWord d = false := by
        cases d with
        | str x => exact absurd rfl (no x)
        | _ => rfl
      rw [z] at q
      exact q _ (Same.refl _)
def isWhole (l m : Int) : PyData → Bool
  | .int i => decide (l ≤ i) && decide (i ≤ m)
  | _ => false
def spWhole (K : PySem.W.Frag) : Sp := fun vs H Q _ => ∃ (v : V) (l m : Int) (d : PyData), vs = [v, .int l, .int m] ∧ Dn K H v d ∧ Q (.bl (isWhole l m d)) H
theorem ok_whole {f : Addr} {fd : FuncData} (F : Fun K "_law_is_whole" "_law_is_whole" s_law_is_whole f fd) (Y : Bn mg) : FnOk P w K mg base CX0 1 f fd ["_law_thing", "_law_least", "_law_most"] (spWhole K) := by
  refine F.ok sc_law_is_whole (fun vs H Q E h => ?_) (fun cdv A outer s H vs Q E hr h => ?_)
  · obtain ⟨v, l, m, d, rfl, _⟩ := h
    rfl
  · obtain ⟨v, l, m, d, rfl, dn, q⟩ := h
    refine ⟨_, (pss_one (ps_ret (pe_and (pe_callB call_isi (by rfl) Y.isinstance (by decide +kernel) (pa_cons (pv 0) (pa_cons (pe_bltn (v := .ty "int") (by rfl) Y.int (by decide +kernel) rfl) pa_nil))) (pe_and (pe_not (pe_callB call_isi (by rfl) Y.isinstance (by decide +kernel) (pa_cons (pv 0) (pa_cons (pe_bltn (v := .ty "bool") (by rfl) Y.bool (by decide +kernel) rfl) pa_nil)))) (pe_one (pe_chain op_le op_le (pv 1) (pv 0) (pv 2))))))), ?_⟩
    rcases int_or dn with ⟨i, rfl, rfl⟩ | ⟨b, rfl, rfl⟩ | ⟨no, t, ty, kt⟩
    · refine ⟨_, rfl, _, _, _, _, true, rfl, .ty "int", .base (.int i), kit_ty (by decide +kernel), _, rfl, iteT ?_⟩
      refine ⟨_, rfl, _, _, _, _, false, rfl, .ty "bool", .base (.int i), kit_ty (by decide +kernel), _, rfl, _, rfl, iteT ?_⟩
      have e : isWhole l m (.int i) = (decide (l ≤ i) && decide (i ≤ m)) := rfl
      rw [e] at q
      refine ⟨_, rfl, _, rfl, _, _, rfl, rfl, _, rfl, ite2 (fun c => ?_) (fun c => ?_)⟩
      · rw [c, Bool.true_and] at q
        exact ⟨_, rfl, _, _, rfl, rfl, q⟩
      · rw [Bool.eq_false_iff.mpr c, Bool.false_and] at q
        exact q
    · refine ⟨_, rfl, _, _, _, _, true, rfl, .ty "int", .base (.bl b), kit_ty (by decide +kernel), _, rfl, iteT ?_⟩
      refine ⟨_, rfl, _, _, _, _, true, rfl, .ty "bool", .base (.bl b), kit_ty (by decide +kernel), _, rfl, _, rfl, iteF ?_⟩
      exact q
    · refine ⟨v, rfl, v, _, _, _, false, rfl, .ty "int", ty, kit_ty kt, _, rfl, iteF ?_⟩
      have z : isWhole l m d = false := by
        cases d with
        | int i => exact absurd rfl (no i)
        | _ => rfl
      rw [z] at q
      exact q
end
end My

namespace My
open PySem PySem.Spec PyProof.Rows L2 Gy Xl Xs Xt
theorem whole_idx (n : Int) (e : PyData) : isWhole 0 (n - 2) e = isIdx (n - 1) e := by
  cases e with
  | int i =>
    show (decide ((0 : Int) ≤ i) && decide (i ≤ n - 2)) = (decide ((0 : Int) ≤ i) && decide (i < n - 1))
    congr 1
    congr 1
    rw [eq_iff_iff]
    omega
  | _ => rfl
theorem whole_bit (e : PyData) : isWhole 0 1 e = isIdx 2 e := by
  have := whole_idx 3 e
  exact this
section
variable {P : Program} {w : World} {K : PySem.W.Frag} {mg : Str → Option Value} {base : Heap} {H : Hp}
def spIsRel (K : PySem.W.Frag) : Sp := fun vs H Q _ => ∃ (v c : V) (d e : PyData), vs = [v, c] ∧ Dn K H v d ∧ Dn K H c e ∧ sml d = true ∧ ∀ H', Same H H' → Q (.bl (isRel (.tuple [d, e]))) H'
theorem ok_isRel {f : Addr} {fd : FuncData} (F : Fun K "_law_is_relink" "_law_is_relink" s_law_is_relink f fd) (Y : Bn mg) (G_law_is_name : Fk P w K mg base CX0 1 "_law_is_name" ["_law_thing"] (spIsName K)) (G_law_is_whole : Fk P w K mg base CX0 1 "_law_is_whole" ["_law_thing", "_law_least", "_law_most"] (spWhole K)) :
    FnOk P w K mg base CX0 2 f fd ["_law_path_here", "_law_cut"] (spIsRel K) := by
  refine F.ok sc_law_is_relink (fun vs H Q E h => ?_) (fun cdv A outer s H vs Q E hr h => ?_)
  · obtain ⟨v, c, d, e, rfl, _⟩ := h
    rfl
  · obtain ⟨v, c0, d, e, rfl, dn, dc, sm, q⟩ := h
    refine ⟨_, (pss_cons (ps_if (PW.pt (pw_or (pt_not (pt_val (pe_callB call_isi (by rfl) Y.isinstance (by decide +kernel) (pa_cons (pv 0) (pa_cons (pe_bltn (v := .ty "tuple") (by rfl) Y.tuple (by decide +kernel) rfl) pa_nil))))) (pw_or (pt_cmpR op_lt (pe_callB call_len_seq (by rfl) Y.len PySem.boot_len (pa_cons (pv 0) pa_nil)) pe_int (nomark _)) (pw_or1 (pt_not (pt_val (pe_callB (cr_all rfl) (by rfl) Y.all (by decide +kernel) (pa_cons (pe_lc (own := [("_law_one", 2)]) (g := gName 2) (tt := tYes) rfl sc_law_is_relink.nd (pi_tup (pv 0)) (blkOk_by (N := ["_law_path_here", "_law_cut", "_law_one"]) (sc := defScope s_law_is_relink) (by decide +kernel)) (fun _ _ _ _ _ => (pg_name (i := 2) sc_law_is_relink.nd rfl (Or.inl rfl))) (fun _ _ _ _ _ => pts_nil) (fun _ _ _ _ _ => (pe_callF G_law_is_name (hr.mono (by decide)) (by rfl) pass0 (pa_cons (pv 2) pa_nil)))) pa_nil))))))))
 (pss_one (ps_ret pe_bl))
 pss_nil)
 (pss_one (ps_ret (pe_and (pe_cmpR op_eq (pe_lenTexts (by rfl) Y.len (by rfl) Y.set (pv 0)) (pe_callB call_len_seq (by rfl) Y.len PySem.boot_len (pa_cons (pv 0) pa_nil)) (nomark _)) (pe_one (pe_callF G_law_is_whole (hr.mono (by decide)) (by rfl) pass0 (pa_cons (pv 1) (pa_cons pe_int (pa_cons (pe_op op_sub (pe_callB call_len_seq (by rfl) Y.len PySem.boot_len (pa_cons (pv 0) pa_nil)) pe_int) pa_nil))))))))), ?_⟩
    rcases tup_or dn with ⟨a, xs, ds, rfl, rfl, ha, hd⟩ | ⟨no, t, ty, kt⟩
    · have sm2 : ds.length ≤ 660 ∧ smls ds = true := by simpa only [sml, Bool.and_eq_true, decide_eq_true_eq] using sm
      have el := Dns.len hd
      have eR : isRel (.tuple [.tuple ds, e]) = (isPath (.tuple ds) && isIdx ((ds.length : Int) - 1) e) := rfl
      rw [eR] at q
      refine ⟨_, rfl, _, _, _, _, true, rfl, .ty "tuple", ha.ty, kit_ty (by decide +kernel), _, rfl, iteF ?_⟩
      refine ⟨_, rfl, a, _, rfl, .inr (ha.sq), _, 3, rfl, rfl, _, rfl, ite2 (fun c => ?_) (fun c => ?_)⟩
      · have c' := of_decide_eq_true c
        have z : isPath (.tuple ds) = false := by
          rw [isPath_t]
          rw [decide_eq_false (show ¬ 3 ≤ ds.length by omega), Bool.false_and]
        rw [z, Bool.false_and] at q
        exact iteT (q _ (Same.refl _))
      · have c' : ¬ (xs.length : Int) < 3 := fun z => c (decide_eq_true z)
        refine ⟨_, rfl, a, rfl, ⟨_, ha.sq⟩, fun D hD => ?_⟩
        refine lc_it (walk_tup (K := K) (a := a) (xs := xs)) (fun i H' => Same H H' ∧ H' D = some (.lst (((ds.take i).map isHost).map V.bl))) ⟨same_upd hD, upd_same⟩ (fun i H' _ h => (ha.same h.1).sq) ?_ ?_
        · rintro i y H1 H2 hi ⟨s1, hL⟩ ⟨rfl, hy⟩
          obtain ⟨di, hdi, dni⟩ := Dns.get hd hy
          refine ⟨rfl, ?_⟩
          dsimp only [tYes]
          refine iteT ?_
          refine ⟨_, rfl, y, di, rfl, dni.same s1, smls_mem sm2.2 (List.mem_of_getElem? hdi), fun H3 s3 => ?_⟩
          refine ⟨_, s3 _ _ hL, ?_, same_upd2 (s1.trans s3) hD, ?_⟩
          · rw [List.length_map, List.length_map, List.length_take]
            exact small200 (by omega)
          · rw [upd_same, List.take_add_one, hdi, List.map_append, List.map_append]
            rfl
        · rintro H1 ⟨s1, hL⟩
          rw [el, List.take_of_length_le (Nat.le_refl _)] at hL
          refine ⟨D, _, rfl, SqL.of hL, _, rfl, ?_⟩
          rw [List.all_map]
          have e3 : ds.all (id ∘ isHost) = ds.all isHost := rfl
          rw [e3]
          cases c2 : ds.all isHost with
          | true =>
            refine iteF ?_
            have et := txts_all c2
            have ha1 := ha.same s1
            have ex : xs = (txts ds).map V.str := by
              rw [et] at hd
              exact Dns.txts hd
            have el2 : xs.length = (txts ds).length := by rw [ex, List.length_map]
            refine ⟨_, rfl, a, txts ds, rfl, (by rw [← ex]; exact ha1.sq), (by omega), _, rfl, a, _, rfl, .inr (ha1.sq), rfl, _, rfl, ?_⟩
            have z : isPath (.tuple ds) = decide (V.int ((numd (txts ds) (txts ds).length : Nat) : Int) = V.int (xs.length : Int)) := by
              rw [isPath_t]
              rw [c2, decide_eq_true (show 3 ≤ ds.length by omega), Bool.true_and, Bool.true_and]
              congr 1
              have nf := numd_full (txts ds) (txts ds).length (Nat.le_refl _)
              rw [List.take_of_length_le (Nat.le_refl _)] at nf
              rw [← nf, eq_iff_iff, el2]
              refine ⟨fun z => by rw [z], fun z => ?_⟩
              injection z with z
              omega
            rw [← z]
            refine ite2 (fun c3 => ?_) (fun c3 => ?_)
            · rw [c3, Bool.true_and] at q
              refine ⟨_, rfl, _, rfl, a, _, rfl, .inr ha1.sq, _, _, rfl, rfl, c0, 0, _, e, rfl, dc.same s1, ?_⟩
              rw [el, whole_idx]
              exact q _ s1
            · rw [Bool.eq_false_iff.mpr c3, Bool.false_and] at q
              exact q _ s1
          | false =>
            refine iteT ?_
            have z : isPath (.tuple ds) = false := by
              rw [isPath_t]
              rw [c2, Bool.false_and, Bool.and_false]
            rw [z, Bool.false_and] at q
            exact q _ s1
    · refine ⟨v, rfl, v, _, _, _, false, rfl, .ty "tuple", ty, kit_ty kt, _, rfl, ?_⟩
      refine iteT (iteT ?_)
      have z : isRel (.tuple [d, e]) = false := by
        cases d with
        | tuple ds => exact absurd rfl (no ds)
        | _ => rfl
      rw [z] at q
      exact q _ (Same.refl _)
def spEnt (K : PySem.W.Frag) : Sp := fun vs H Q _ => ∃ (v : V) (d : PyData), vs = [v] ∧ Dn K H v d ∧ sml d = true ∧ ∀ H', Same H H' → Q (.bl (isItem d)) H'
theorem ok_ent {f : Addr} {fd : FuncData} (F : Fun K "_law_is_entry" "_law_is_entry" s_law_is_entry f fd) (Y : Bn mg) (G_law_is_name : Fk P w K mg base CX0 1 "_law_is_name" ["_law_thing"] (spIsName K)) (G_law_is_word : Fk P w K mg base CX0 1 "_law_is_word" ["_law_thing"] (spIsWord K))
    (G_law_is_whole : Fk P w K mg base CX0 1 "_law_is_whole" ["_law_thing", "_law_least", "_law_most"] (spWhole K)) (G_law_is_relink : Fk P w K mg base CX0 2 "_law_is_relink" ["_law_path_here", "_law_cut"] (spIsRel K)) : FnOk P w K mg base CX0 3 f fd ["_law_thing"] (spEnt K) := by
  refine F.ok sc_law_is_entry (fun vs H Q E h => ?_) (fun cdv A outer s H vs Q E hr h => ?_)
  · obtain ⟨v, d, rfl, _⟩ := h
    rfl
  · obtain ⟨v, d, rfl, dn, sm, q⟩ := h
    have hu0 := Nat.lt_of_le_of_lt (Nat.le_add_right _ 64) hr.units
    refine ⟨_, (pss_cons (ps_if (PW.pt (pw_or (pt_not (pt_val (pe_callB call_isi (by rfl) Y.isinstance (by decide +kernel) (pa_cons (pv 0) (pa_cons (pe_bltn (v := .ty "tuple") (by rfl) Y.tuple (by decide +kernel) rfl) pa_nil))))) (pw_or1 (pt_cmpR (op_eqEmT hu0) (pv 0) (pe_tupZ pa_nil) (nomark _)))))
 (pss_one (ps_ret pe_bl))
 pss_nil)
 (pss_cons (ps_if (pt_cmpR (op_eqS hu0) (pe_ix ix_tup (pv 0) pe_int (fun _ _ => rfl)) pe_str (nomark _))
 (pss_cons (ps_if (PW.pt (pw_or (pt_cmpR op_ne (pe_callB call_len_seq (by rfl) Y.len PySem.boot_len (pa_cons (pv 0) pa_nil)) pe_int (nomark _)) (pw_or (pt_not (pt_val (pe_callF G_law_is_name (hr.mono (by decide)) (by rfl) pass0 (pa_cons (pe_ix ix_tup (pv 0) pe_int (fun _ _ => rfl)) pa_nil)))) (pw_or1 (pt_not (pt_val (pe_callF G_law_is_word (hr.mono (by decide)) (by rfl) pass0 (pa_cons (pe_ix ix_tup (pv 0) pe_int (fun _ _ => rfl)) pa_nil))))))))
 (pss_one (ps_ret pe_bl))
 pss_nil)
 (pss_one (ps_ret (pe_callF G_law_is_whole (hr.mono (by decide)) (by rfl) pass0 (pa_cons (pe_ix ix_tup (pv 0) pe_int (fun _ _ => rfl)) (pa_cons pe_int (pa_cons pe_int pa_nil)))))))
 pss_nil)
 (pss_cons (ps_if (pt_cmpR (op_eqS hu0) (pe_ix ix_tup (pv 0) pe_int (fun _ _ => rfl)) pe_str (nomark _))
 (pss_one (ps_ret (pe_cmpR op_eq (pe_callB call_len_seq (by rfl) Y.len PySem.boot_len (pa_cons (pv 0) pa_nil)) pe_int (nomark _))))
 pss_nil)
 (pss_cons (ps_if (PW.pt (pw_or (pt_not (pt_val (pe_callB call_isi (by rfl) Y.isinstance (by decide +kernel) (pa_cons (pe_ix ix_tup (pv 0) pe_int (fun _ _ => rfl)) (pa_cons (pe_bltn (v := .ty "str") (by rfl) Y.str (by decide +kernel) rfl) pa_nil))))) (pw_or1 (pt_cmpR op_notIn_seq (pe_ix ix_tup (pv 0) pe_int (fun _ _ => rfl)) (pe_tupZ (pa_cons pe_str (pa_cons pe_str (pa_cons pe_str (pa_cons pe_str (pa_cons pe_str pa_nil)))))) rfl))))
 (pss_one (ps_ret pe_bl))
 pss_nil)
 (pss_one (ps_ret (pe_and (pe_cmpR op_eq (pe_callB call_len_seq (by rfl) Y.len PySem.boot_len (pa_cons (pv 0) pa_nil)) pe_int (nomark _)) (pe_one (pe_callF G_law_is_relink (hr.mono (by decide)) (by rfl) pass0 (pa_cons (pe_ix ix_tup (pv 0) pe_int (fun _ _ => rfl)) (pa_cons (pe_ix ix_tup (pv 0) pe_int (fun _ _ => rfl)) pa_nil))))))))))), ?_⟩
    rcases tup_or dn with ⟨a, xs, ds, rfl, rfl, ha, hd⟩ | ⟨no, t, ty, kt⟩
    · have sm2 : ds.length ≤ 660 ∧ smls ds = true := by simpa only [sml, Bool.and_eq_true, decide_eq_true_eq] using sm
      refine ⟨_, rfl, _, _, _, _, true, rfl, .ty "tuple", ha.ty, kit_ty (by decide +kernel), _, rfl, iteF ?_⟩
      refine ⟨_, rfl, (by show 0 ≤ sizeLine; decide), fun t0 o0 n0 s0 z0 => ?_⟩
      refine ⟨a, t0, _, rfl, rfl, (ha.same s0).sq, z0.sq, _, rfl, ?_⟩
      generalize upd _ t0 o0 = H0 at s0 z0 ⊢
      cases hd with
      | nil =>
        refine iteT ?_
        exact q _ s0
      | @cons x xs d0 ds h0 hd =>
        refine iteF ?_
        have ha0 := ha.same s0
        have el1 := Dns.len hd
        have hd0 := hd.same s0
        have sp : smls ds = true := smls_tail sm2.2
        have lp : ds.length ≤ 659 := by have := sm2.1; rw [List.length_cons] at this; omega
        refine ⟨_, rfl, a, _, 0, x, rfl, rfl, ha0.sq, atI_nat (j := 0) rfl, d0, "message", rfl, h0.same s0, _, rfl, ?_⟩
        cases c1 : isTx "message" d0 with
        | true =>
          refine iteT ?_
          have e0 : d0 = .str "message" := by
            cases d0 with
            | str k =>
              have z := of_decide_eq_true c1
              injection z with z
              rw [z]
            | _ => cases c1
          subst e0
          have eI : isItem (.tuple (.str "message" :: ds)) = isMsg ds := rfl
          rw [eI] at q
          refine ⟨_, rfl, a, _, rfl, .inr ha0.sq, rfl, _, rfl, ite2 (fun c2 => ?_) (fun c2 => ?_)⟩
          · have c2' : ds.length ≠ 3 := fun z => by
              rw [decide_eq_true (show V.int ((x :: xs).length : Int) = V.int 4 by rw [List.length_cons, el1, z]; rfl)] at c2
              cases c2
            rw [isMsg_n c2'] at q
            exact iteT (q _ s0)
          · have c2' : xs.length = 3 := by
              have z : V.int ((x :: xs).length : Int) = V.int 4 := Decidable.of_not_not fun z => c2 (by rw [decide_eq_false z]; rfl)
              injection z with z
              rw [List.length_cons] at z
              omega
            obtain ⟨y1, y2, y3, rfl⟩ : ∃ x y z, xs = [x, y, z] := by
              match xs, c2' with
              | [x, y, z], _ => exact ⟨x, y, z, rfl⟩
            cases hd0 with
            | @cons _ _ d1 _ h1 hd0 =>
            cases hd0 with
            | @cons _ _ d2 _ h2 hd0 =>
            cases hd0 with
            | @cons _ _ d3 _ h3 hd0 =>
              cases hd0
              have m1 : sml d1 = true := smls_mem sp List.mem_cons_self
              have m2 : sml d2 = true := smls_mem sp (List.mem_cons_of_mem _ List.mem_cons_self)
              have eM : isMsg [d1, d2, d3] = (isHost d1 && (isWord d2 && isIdx 2 d3)) := rfl
              rw [eM] at q
              refine ⟨_, rfl, a, _, 1, y1, rfl, rfl, ha0.sq, atI_nat (j := 1) rfl, y1, d1, rfl, h1, m1, fun H1 s1 => ⟨_, rfl, ?_⟩⟩
              cases c3 : isHost d1 with
              | false =>
                rw [c3, Bool.false_and] at q
                exact iteT (iteT (q _ (s0.trans s1)))
              | true =>
                rw [c3, Bool.true_and] at q
                refine iteF ?_
                refine ⟨_, rfl, a, _, 2, y2, rfl, rfl, (ha0.same s1).sq, atI_nat (j := 2) rfl, y2, d2, rfl, h2.same s1, m2, fun H2 s2 => ⟨_, rfl, ?_⟩⟩
                have s12 := s1.trans s2
                cases c4 : isWord d2 with
                | false =>
                  rw [c4, Bool.false_and] at q
                  exact iteT (q _ (s0.trans s12))
                | true =>
                  rw [c4, Bool.true_and] at q
                  refine iteF ?_
                  refine ⟨_, rfl, a, _, 3, y3, rfl, rfl, (ha0.same s12).sq, atI_nat (j := 3) rfl, y3, 0, 1, d3, rfl, h3.same s12, ?_⟩
                  rw [whole_bit]
                  exact q _ (s0.trans s12)
        | false =>
          refine iteF ?_
          refine ⟨_, rfl, a, _, 0, x, rfl, rfl, ha0.sq, atI_nat (j := 0) rfl, d0, "bye", rfl, h0.same s0, _, rfl, ?_⟩
          cases c2 : isTx "bye" d0 with
          | true =>
            refine iteT ?_
            have e0 : d0 = .str "bye" := by
              cases d0 with
              | str k =>
                have z := of_decide_eq_true c2
                injection z with z
                rw [z]
              | _ => cases c2
            subst e0
            have eI : isItem (.tuple (.str "bye" :: ds)) = ds.isEmpty := rfl
            rw [eI] at q
            refine ⟨_, rfl, a, _, rfl, .inr ha0.sq, rfl, ?_⟩
            have z : decide (V.int ((x :: xs).length : Int) = V.int 1) = ds.isEmpty := by
              rw [List.length_cons, el1]
              cases ds with
              | nil => rfl
              | cons y ys =>
                refine decide_eq_false fun w => ?_
                injection w with w
                rw [List.length_cons] at w
                omega
            rw [z]
            exact q _ s0
          | false =>
            refine iteF ?_
            refine ⟨_, rfl, a, _, 0, x, rfl, rfl, ha0.sq, atI_nat (j := 0) rfl, ?_⟩
            rcases str_or (h0.same s0) with ⟨k, rfl, rfl⟩ | ⟨no, t, ty, kt⟩
            · refine ⟨_, _, _, _, true, rfl, .ty "str", .base (.str k), kit_ty (by decide +kernel), _, rfl, iteF ?_⟩
              have n1 : ¬ k = "message" := fun z => by
                subst z
                cases c1
              have n2 : ¬ k = "bye" := fun z => by
                subst z
                cases c2
              have eI : isItem (.tuple (.str k :: ds)) = (decide (k ∈ KINDS) && isRel (.tuple ds)) := by
                show (if k = "message" then isMsg ds else if k = "bye" then ds.isEmpty else decide (k ∈ KINDS) && isRel (.tuple ds)) = _
                rw [if_neg n1, if_neg n2]
              rw [eI] at q
              refine ⟨_, rfl, a, _, 0, _, rfl, rfl, ha0.sq, atI_nat (j := 0) rfl, (by show 5 ≤ sizeLine; decide), fun t5 o5 n5 s5 z5 => ?_⟩
              refine ⟨t5, _, rfl, .inr z5.sq, rfl, flat_strs KINDS, _, rfl, ?_⟩
              generalize upd _ t5 o5 = H5 at s5 z5 ⊢
              have ei : inV (.str k) (KINDS.map V.str) = decide (k ∈ KINDS) := inV_strs k KINDS
              have ei' : (if true = true then !inV (.str k) (KINDS.map V.str) else inV (.str k) (KINDS.map V.str)) = !decide (k ∈ KINDS) := by rw [if_pos rfl, ei]
              rw [show (if true = true then !inV (V.str k) [V.str "ask", V.str "no", V.str "yes", V.str "go", V.str "back"] else inV (V.str k) [V.str "ask", V.str "no", V.str "yes", V.str "go", V.str "back"]) = !decide (k ∈ KINDS) from ei']
              have s05 := s0.trans s5
              have ha5 := ha0.same s5
              cases c3 : decide (k ∈ KINDS) with
              | false =>
                rw [c3, Bool.false_and] at q
                exact iteT (q _ s05)
              | true =>
                rw [c3, Bool.true_and] at q
                refine iteF ?_
                refine ⟨_, rfl, a, _, rfl, .inr ha5.sq, rfl, _, rfl, ite2 (fun c4 => ?_) (fun c4 => ?_)⟩
                · have c4' : xs.length = 2 := by
                    have z := of_decide_eq_true c4
                    injection z with z
                    rw [List.length_cons] at z
                    omega
                  obtain ⟨y1, y2, rfl⟩ : ∃ x y, xs = [x, y] := by
                    match xs, c4' with
                    | [x, y], _ => exact ⟨x, y, rfl⟩
                  cases hd0 with
                  | @cons _ _ d1 _ h1 hd0 =>
                  cases hd0 with
                  | @cons _ _ d2 _ h2 hd0 =>
                    cases hd0
                    refine ⟨_, rfl, a, _, 1, y1, rfl, rfl, ha5.sq, atI_nat (j := 1) rfl, _, rfl, a, _, 2, y2, rfl, rfl, ha5.sq, atI_nat (j := 2) rfl, y1, y2, d1, d2, rfl, h1.same s5, h2.same s5, smls_mem sp List.mem_cons_self, fun H6 s6 => q _ (s05.trans s6)⟩
                · have c4' : ds.length ≠ 2 := fun z => by
                    refine c4 (decide_eq_true ?_)
                    rw [List.length_cons, el1, z]
                    rfl
                  rw [isRel_n c4'] at q
                  exact q _ s05
            · refine ⟨_, _, _, _, false, rfl, .ty "str", ty, kit_ty kt, _, rfl, iteT (iteT ?_)⟩
              have z : isItem (.tuple (d0 :: ds)) = false := by
                cases d0 with
                | str x => exact absurd rfl (no x)
                | _ => rfl
              rw [z] at q
              exact q _ s0
    · refine ⟨v, rfl, v, _, _, _, false, rfl, .ty "tuple", ty, kit_ty kt, _, rfl, ?_⟩
      refine iteT (iteT ?_)
      have z : isItem d = false := by
        cases d with
        | tuple ds => exact absurd rfl (no ds)
        | _ => rfl
      rw [z] at q
      exact q _ (Same.refl _)
end
end My

namespace My
open PySem PySem.Spec PyProof.Rows L2 Gy Xl Xs Xt
/-! ### data that stand while the pot changes -/
def wo (r : Addr) (H : Hp) : Hp := fun a => if a = r then none else H a
theorem wo_at {r a : Addr} {H : Hp} (n : a ≠ r) : wo r H a = H a := if_neg n
theorem wo_same (r : Addr) (H : Hp) : Same (wo r H) H := fun b o e => by
  by_cases h : b = r
  · rw [wo, if_pos h] at e
    cases e
  · rw [wo_at h] at e
    exact e
theorem wo_but {r : Addr} {H H' : Hp} (h : But r H H') : Same (wo r H) (wo r H') := fun b o e => by
  by_cases n : b = r
  · rw [wo, if_pos n] at e
    cases e
  · rw [wo_at n] at e
    rw [wo_at n]
    exact h b o n e
section
variable {K : PySem.W.Frag} {H H' : Hp} {r : Addr}
/-- data none of which is the pot -/
def Db (K : PySem.W.Frag) (r : Addr) (H : Hp) (v : V) (d : PyData) : Prop := Dn K (wo r H) v d
def Dbs (K : PySem.W.Frag) (r : Addr) (H : Hp) (vs : List V) (ds : List PyData) : Prop := Dns K (wo r H) vs ds
theorem Db.dn {v : V} {d : PyData} (h : Db K r H v d) : Dn K H v d := Dn.same (wo_same r H) h
theorem Db.but {v : V} {d : PyData} (h : Db K r H v d) (b : But r H H') : Db K r H' v d := Dn.same (wo_but b) h
theorem Db.same {v : V} {d : PyData} (h : Db K r H v d) (s : Same H H') : Db K r H' v d := h.but (But.of s)
theorem Dbs.dns {vs : List V} {ds : List PyData} (h : Dbs K r H vs ds) : Dns K H vs ds := Dns.same (wo_same r H) h
theorem Dbs.but {vs : List V} {ds : List PyData} (h : Dbs K r H vs ds) (b : But r H H') : Dbs K r H' vs ds := Dns.same (wo_but b) h
theorem Dbs.same {vs : List V} {ds : List PyData} (h : Dbs K r H vs ds) (s : Same H H') : Dbs K r H' vs ds := h.but (But.of s)
theorem tz_wo {t : Addr} {xs : List V} (R : Rng H r) (z : Tz H t xs) : Tz (wo r H) t xs := by
  obtain ⟨o, e, c⟩ := z
  refine ⟨o, ?_, c⟩
  rw [wo_at (fun n => ?_)]
  · exact e
  · obtain ⟨x, y, e2, _⟩ := R
    rw [n, e2] at e
    cases e
theorem Db.tup {t : Addr} {xs : List V} {ds : List PyData} (R : Rng H r) (z : Tz H t xs) (h : Dbs K r H xs ds) : Db K r H (.ref t) (.tuple ds) := Dn.tup (tz_wo R z) h
theorem Db.lst {l : Addr} {xs : List V} {ds : List PyData} (n : l ≠ r) (e : H l = some (.lst xs)) (h : Dbs K r H xs ds) : Db K r H (.ref l) (.list ds) := Dn.lst (by rw [wo_at n]; exact e) h
theorem Db.dic {l : Addr} (n : l ≠ r) (e : H l = some (.dK [])) : Db K r H (.ref l) (.dict []) := Dn.dic (by rw [wo_at n]; exact e)
theorem Db.str (x : Str) : Db K r H (.str x) (.str x) := Dn.str x
theorem Db.int (i : Int) : Db K r H (.int i) (.int i) := Dn.int i
theorem Db.bl (b : Bool) : Db K r H (.bl b) (.bool b) := Dn.bl b
theorem Db.non : Db K r H .non .none := Dn.non
theorem Dbs.nil : Dbs K r H [] [] := Dns.nil
theorem Dbs.cons {v : V} {vs : List V} {d : PyData} {ds : List PyData} (h : Db K r H v d) (t : Dbs K r H vs ds) : Dbs K r H (v :: vs) (d :: ds) := Dns.cons h t
theorem dns_app : ∀ {vs us : List V} {ds es : List PyData}, Dns K H vs ds → Dns K H us es → Dns K H (vs ++ us) (ds ++ es)
  | _, _, _, _, .nil, h => h
  | _, _, _, _, .cons a t, h => .cons a (dns_app t h)
theorem Dbs.app {vs us : List V} {ds es : List PyData} (h : Dbs K r H vs ds) (h2 : Dbs K r H us es) : Dbs K r H (vs ++ us) (ds ++ es) := dns_app h h2
theorem dns_drop : ∀ {vs : List V} {ds : List PyData} (n : Nat), Dns K H vs ds → Dns K H (vs.drop n) (ds.drop n)
  | _, _, 0, h => h
  | _, _, n + 1, .nil => .nil
  | _, _, n + 1, .cons a t => dns_drop n t
theorem dns_take : ∀ {vs : List V} {ds : List PyData} (n : Nat), Dns K H vs ds → Dns K H (vs.take n) (ds.take n)
  | _, _, 0, _ => .nil
  | _, _, n + 1, .nil => .nil
  | _, _, n + 1, .cons a t => .cons a (dns_take n t)
theorem Dbs.drop {vs : List V} {ds : List PyData} (n : Nat) (h : Dbs K r H vs ds) : Dbs K r H (vs.drop n) (ds.drop n) := dns_drop n h
theorem Dbs.take {vs : List V} {ds : List PyData} (n : Nat) (h : Dbs K r H vs ds) : Dbs K r H (vs.take n) (ds.take n) := dns_take n h
theorem dns_rev : ∀ {vs : List V} {ds : List PyData}, Dns K H vs ds → Dns K H vs.reverse ds.reverse
  | _, _, .nil => .nil
  | _, _, .cons a t => by
    rw [List.reverse_cons, List.reverse_cons]
    exact dns_app (dns_rev t) (.cons a .nil)
theorem Dbs.rev {vs : List V} {ds : List PyData} (h : Dbs K r H vs ds) : Dbs K r H vs.reverse ds.reverse := dns_rev h
theorem dns_mem : ∀ {vs : List V} {ds : List PyData} {v : V}, Dns K H vs ds → v ∈ vs → ∃ d, d ∈ ds ∧ Dn K H v d
  | _, _, _, .nil, h => nomatch h
  | _, _, v, .cons (d := d) a t, h => by
    rcases List.mem_cons.mp h with rfl | h
    · exact ⟨d, List.mem_cons_self, a⟩
    · obtain ⟨e, m, z⟩ := dns_mem t h
      exact ⟨e, List.mem_cons_of_mem _ m, z⟩
theorem Dbs.mem {vs : List V} {ds : List PyData} {v : V} (h : Dbs K r H vs ds) (m : v ∈ vs) : ∃ d, d ∈ ds ∧ Db K r H v d := dns_mem h m
theorem Dbs.len {vs : List V} {ds : List PyData} (h : Dbs K r H vs ds) : vs.length = ds.length := Dns.len h.dns
theorem Dbs.get {vs : List V} {ds : List PyData} (h : Dbs K r H vs ds) {i : Nat} {v : V} (e : vs[i]? = some v) : ∃ d, ds[i]? = some d ∧ Db K r H v d := Dns.get (show Dns K (wo r H) vs ds from h) e
theorem dbs_strs (xs : List Str) : Dbs K r H (xs.map V.str) (xs.map PyData.str) := by
  induction xs with
  | nil => exact .nil
  | cons x xs ih => exact .cons (.str x) ih
theorem upd_new {l : Addr} {o : HO} (e : upd H l o = H') (n : H l = none) : Same H H' ∧ H' l = some o := by
  rw [← e]
  exact ⟨same_upd n, upd_same⟩
end
theorem _root_.Xt.Tz.but {H H' : Hp} {a r : Addr} {xs : List V} (h : Tz H a xs) (R : Rng H r) (b : But r H H') : Tz H' a xs := by
  obtain ⟨o, e, c⟩ := h
  refine ⟨o, b a _ (fun z => ?_) e, c⟩
  obtain ⟨x, y, e2, _⟩ := R
  rw [z, e2] at e
  cases e
/-! ### how large they are -/
structure Bd (n W : Nat) (d : PyData) : Prop where
  sh : d.showable = true
  lf : d.leavesShort 40 = true
  dp : d.depth ≤ n
  wt : d.weight ≤ W
  sm : sml d = true
theorem Bd.mono {n W n' W' : Nat} {d : PyData} (h : Bd n W d) (a : n ≤ n') (b : W ≤ W') : Bd n' W' d := ⟨h.sh, h.lf, Nat.le_trans h.dp a, Nat.le_trans h.wt b, h.sm⟩
def Fits (d : PyData) : Prop := d.showable = true ∧ d.depth ≤ 60 ∧ d.shown.length ≤ sizeLine
theorem Bd.fits {n W : Nat} {d : PyData} (h : Bd n W d) (a : n ≤ 60) (b : W ≤ 300000) : Fits d := by
  refine ⟨h.sh, Nat.le_trans h.dp a, ?_⟩
  have l := PyData.shown_le 40 (by decide) d h.lf
  have w := h.wt
  have m : (40 + 2) * d.weight ≤ 42 * 300000 := Nat.mul_le_mul (by decide) (by omega)
  rw [sizeLine_eq]
  omega
theorem bds {n W : Nat} : ∀ {ds : List PyData}, (∀ d ∈ ds, Bd n W d) → PyData.showableAll ds = true ∧ PyData.leavesShortAll 40 ds = true ∧ PyData.depthAll ds ≤ n ∧ PyData.weightAll ds ≤ ds.length * (W + 1) ∧ smls ds = true
  | [], _ => ⟨rfl, rfl, Nat.zero_le _, Nat.zero_le _, rfl⟩
  | d :: ds, h => by
    obtain ⟨a1, a2, a3, a4, a5⟩ := bds (ds := ds) fun e he => h e (List.mem_cons_of_mem _ he)
    have g := h d List.mem_cons_self
    refine ⟨?_, ?_, ?_, ?_, ?_⟩
    · show (d.showable && PyData.showableAll ds) = true
      rw [g.sh, a1]
      rfl
    · show (d.leavesShort 40 && PyData.leavesShortAll 40 ds) = true
      rw [g.lf, a2]
      rfl
    · show max d.depth (PyData.depthAll ds) ≤ n
      have := g.dp
      omega
    · show d.weight + 1 + PyData.weightAll ds ≤ (ds.length + 1) * (W + 1)
      have := g.wt
      rw [Nat.add_mul, Nat.one_mul]
      omega
    · show (sml d && smls ds) = true
      rw [g.sm, a5]
      rfl
theorem Bd.tup {n W L : Nat} {ds : List PyData} (h : ∀ d ∈ ds, Bd n W d) (l : ds.length ≤ L) (L14 : L ≤ 660) : Bd (n + 1) (L * (W + 1)) (.tuple ds) := by
  obtain ⟨a1, a2, a3, a4, a5⟩ := bds h
  refine ⟨a1, a2, Nat.succ_le_succ a3, Nat.le_trans a4 (Nat.mul_le_mul_right _ l), ?_⟩
  show (decide (ds.length ≤ 660) && smls ds) = true
  rw [decide_eq_true (by omega), a5]
  rfl
theorem Bd.lst {n W L : Nat} {ds : List PyData} (h : ∀ d ∈ ds, Bd n W d) (l : ds.length ≤ L) (L14 : L ≤ 660) : Bd (n + 1) (L * (W + 1)) (.list ds) := by
  obtain ⟨a1, a2, a3, a4, a5⟩ := bds h
  refine ⟨a1, a2, Nat.succ_le_succ a3, Nat.le_trans a4 (Nat.mul_le_mul_right _ l), ?_⟩
  show (decide (ds.length ≤ 660) && smls ds) = true
  rw [decide_eq_true (by omega), a5]
  rfl
/-- a part: not deep, not large -/
abbrev A0 (d : PyData) : Prop := Bd 1 120 d
theorem a0_txt {x : Str} (h : (decide (x.length ≤ 20) && x.cps.toList.all fun c => decide (c < 16 ^ 8)) = true := by decide +kernel) : A0 (.str x) := by
  rw [Bool.and_eq_true, decide_eq_true_eq] at h
  refine ⟨rfl, h.2, Nat.zero_le _, ?_, decide_eq_true (Nat.le_trans h.1 (by decide))⟩
  show x.cps.size ≤ 120
  have : x.cps.size ≤ 20 := h.1
  omega
theorem a0_nm {x : Str} (h : Nm x) : A0 (.str x) := a0_txt (by
  rw [Bool.and_eq_true, decide_eq_true_eq]
  refine ⟨by have := h.2.1; omega, List.all_eq_true.mpr fun c hc => ?_⟩
  have z : ∀ d ∈ LET.cps.toList, d < 16 ^ 8 := by decide +kernel
  exact decide_eq_true (z c (h.2.2 c hc)))
theorem a0_int {i : Int} (h : (decide ((PyData.shown (.int i)).length ≤ 40) && decide (i.natAbs.log2 < 110)) = true := by decide +kernel) : A0 (.int i) := by
  rw [Bool.and_eq_true, decide_eq_true_eq, decide_eq_true_eq] at h
  refine ⟨?_, decide_eq_true h.1, Nat.zero_le _, ?_, rfl⟩
  · show decide (i.natAbs.log2 < 1920) = true
    exact decide_eq_true (by omega)
  · show (if (i == 0) = true then 0 else i.natAbs.log2 + 1) ≤ 120
    split <;> omega
theorem a0_nat {n : Nat} (h : n ≤ 100) : A0 (.int (n : Int)) := by
  have z : ∀ m : Fin 101, (decide ((PyData.shown (.int ((m.val : Nat) : Int))).length ≤ 40) && decide (((m.val : Nat) : Int).natAbs.log2 < 110)) = true := by decide +kernel
  exact a0_int (z ⟨n, by omega⟩)
theorem a0_bl {b : Bool} : A0 (.bool b) := ⟨rfl, rfl, Nat.zero_le _, Nat.zero_le _, rfl⟩
theorem a0_non : A0 .none := ⟨rfl, rfl, Nat.zero_le _, Nat.zero_le _, rfl⟩
theorem a0_dic : A0 (.dict []) := ⟨rfl, rfl, by decide, Nat.zero_le _, rfl⟩
/-- a part that, if it is a tuple, has few and small parts -/
def PT (m : Nat) (p : PyData) : Prop := ∀ qs, p = .tuple qs → qs.length ≤ m ∧ ∀ q ∈ qs, A0 q
end My

namespace My
open PySem PySem.Spec PyProof.Rows L2 Gy Xl Xs Xt
theorem it_host {x : Str} (h : Nm x) : isHost (.str x) = true := by
  show (decide ((1 : Int) ≤ (x.length : Int)) && decide ((x.length : Int) ≤ 8) && allIn LET x) = true
  rw [decide_eq_true (by have := h.1; omega), decide_eq_true (by have := h.2.1; omega)]
  exact List.all_eq_true.mpr fun c hc => decide_eq_true (h.2.2 c hc)
theorem it_msg {x y : Str} {b : Nat} (h : Nm x) (iw : isWord (.str y) = true) (hb : b < 2) : isItem (.tuple [.str "message", .str x, .str y, .int (b : Int)]) = true := by
  show (isHost (.str x) && (isWord (.str y) && (decide ((0 : Int) ≤ (b : Int)) && decide ((b : Int) < 2)))) = true
  rw [it_host h, iw, decide_eq_true (by omega), decide_eq_true (by omega)]
  rfl
theorem it_txts : ∀ xs : List Str, txts (xs.map PyData.str) = xs
  | [] => rfl
  | x :: xs => by
    show x :: txts (xs.map PyData.str) = x :: xs
    rw [it_txts xs]
theorem it_kind {k : Str} (h : k ∈ KINDS) : ¬ k = "message" ∧ ¬ k = "bye" := by
  unfold KINDS at h
  simp only [List.mem_cons, List.not_mem_nil, or_false] at h
  rcases h with rfl | rfl | rfl | rfl | rfl
  all_goals exact ⟨by decide +kernel, by decide +kernel⟩
theorem it_isrel {xs : List Str} {c : Nat} (nm : ∀ x ∈ xs, Nm x) (nd : xs.Nodup) (l3 : 3 ≤ xs.length) (cl : c + 2 ≤ xs.length) : isRel (.tuple [.tuple (xs.map PyData.str), .int (c : Int)]) = true := by
  show (isPath (.tuple (xs.map PyData.str)) && isIdx (((xs.map PyData.str).length : Int) - 1) (.int (c : Int))) = true
  rw [isPath_t, isIdx_i, List.length_map, it_txts, decide_eq_true l3, decide_eq_true nd, decide_eq_true (by omega), decide_eq_true (by omega)]
  have z : (xs.map PyData.str).all isHost = true := by
    rw [List.all_map, List.all_eq_true]
    exact fun x hx => it_host (nm x hx)
  rw [z]
  rfl
theorem it_rel {k : Str} {xs : List Str} {c : Nat} (hk : k ∈ KINDS) (nm : ∀ x ∈ xs, Nm x) (nd : xs.Nodup) (l3 : 3 ≤ xs.length) (cl : c + 2 ≤ xs.length) : isItem (.tuple [.str k, .tuple (xs.map PyData.str), .int (c : Int)]) = true := by
  show (if k = "message" then isMsg [.tuple (xs.map PyData.str), .int (c : Int)] else if k = "bye" then false else decide (k ∈ KINDS) && isRel (.tuple [.tuple (xs.map PyData.str), .int (c : Int)])) = true
  rw [if_neg (it_kind hk).1, if_neg (it_kind hk).2, decide_eq_true hk, it_isrel nm nd l3 cl]
  rfl
section
variable {P : Program} {w : World} {K : PySem.W.Frag} {mg : Str → Option Value} {base : Heap} {H : Hp}
def spName : Sp := fun vs H Q _ => ∃ (r ua : Addr) (us : List Str), vs = [.ref r, .ref ua] ∧ Rng H r ∧ ua ≠ r ∧ H ua = some (.lst (us.map V.str)) ∧ us.length ≤ 20 ∧ ∀ H' x, But r H H' → Rng H' r → Nm x → x ∉ us → Q (.str x) H'
theorem ok_name {f : Addr} {fd : FuncData} (F : Fun K "_law_name" "_law_name" s_law_name f fd) (Y : Bn mg) (G_law_draw : Fk P w K mg base CX0 1 "_law_draw" ["_law_pot_here", "_law_many"] spDraw) : FnOk P w K mg base CX0 2 f fd ["_law_pot_here", "_law_used"] spName := by
  refine F.ok sc_law_name (fun vs H Q E h => ?_) (fun cdv A outer s H vs Q E hr h => ?_)
  · obtain ⟨r, ua, us, rfl, _⟩ := h
    rfl
  · obtain ⟨r, ua, us, rfl, R, nu, hu, lu, q⟩ := h
    refine ⟨_, (pss_cons (ps_set (i := 2) sc_law_name.nd rfl (.inr rfl) pe_str)
 (pss_cons (ps_set (i := 3) sc_law_name.nd rfl (.inl rfl) (pe_ix ix_list (pe_lst (pa_cons pe_int (pa_cons pe_int (pa_cons pe_int (pa_cons pe_int (pa_cons (pe_op op_add pe_int (pe_callF G_law_draw (hr.mono (by decide)) (by rfl) pass0 (pa_cons (pv 0) (pa_cons pe_int pa_nil)))) pa_nil)))))) (pe_callF G_law_draw (hr.mono (by decide)) (by rfl) pass0 (pa_cons (pv 0) (pa_cons pe_int pa_nil))) (fun _ _ => rfl)))
 (pss_cons (ps_set (i := 4) sc_law_name.nd rfl (.inr rfl) (pe_join pe_str (pe_lc (own := [("_law_k", 6)]) (g := gName 6) (tt := tYes) rfl sc_law_name.nd (pi_range1 (by rfl) Y.range (pa_cons (pv 3) pa_nil)) (blkOk_by (N := ["_law_pot_here", "_law_used", "_law_letters", "_law_size", "_law_name_here", "_law_others", "_law_k", "_law_letter", "_law_one"]) (sc := defScope s_law_name) (by decide +kernel)) (fun _ _ _ _ _ => (pg_name (i := 6) sc_law_name.nd rfl (Or.inl rfl))) (fun _ _ _ _ _ => pts_nil) (fun _ _ _ _ _ => (pe_ix ix_str (pv 2) (pe_callF G_law_draw (hr.mono (by decide)) (by rfl) pass0 (pa_cons (pv 0) (pa_cons pe_int pa_nil))) (fun _ _ => rfl))))))
 (pss_cons (ps_set (i := 5) sc_law_name.nd rfl (.inl rfl) (pe_op op_cat (pe_lst (pa_cons (pv 4) pa_nil)) (pe_lc (own := [("_law_letter", 7)]) (g := gName 7) (tt := tYes) rfl sc_law_name.nd (pi_str (pv 2)) (blkOk_by (N := ["_law_pot_here", "_law_used", "_law_letters", "_law_size", "_law_name_here", "_law_others", "_law_k", "_law_letter", "_law_one"]) (sc := defScope s_law_name) (by decide +kernel)) (fun _ _ _ _ _ => (pg_name (i := 7) sc_law_name.nd rfl (Or.inl rfl))) (fun _ _ _ _ _ => pts_nil) (fun _ _ _ _ _ => (pe_op op_add_str (pe_slice sl_str (pv 4) po_none (po_some pe_int)) (pv 7))))))
 (pss_one (ps_ret (pe_ix ix_list (pe_lc (own := [("_law_one", 8)]) (g := gName 8) (tt := tTest (tOp (rIn K true) (tVar 8) (tVar 1))) rfl sc_law_name.nd (pi_list (pv 5)) (blkOk_by (N := ["_law_pot_here", "_law_used", "_law_letters", "_law_size", "_law_name_here", "_law_others", "_law_k", "_law_letter", "_law_one"]) (sc := defScope s_law_name) (by decide +kernel)) (fun _ _ _ _ _ => (pg_name (i := 8) sc_law_name.nd rfl (Or.inl rfl))) (fun _ _ _ _ _ => (pts_one (pt_cmpR op_notIn_seq (pv 8) (pv 1) rfl))) (fun _ _ _ _ _ => (pv 8))) pe_int (fun _ _ => rfl)))))))), ?_⟩
    -- the size
    refine ⟨_, rfl, r, 8, rfl, R, by decide, by decide, fun H1 a b1 R a0 a1 => ⟨_, _, rfl, rfl, ?_⟩⟩
    obtain ⟨a, rfl⟩ := Int.eq_ofNat_of_zero_le a0
    refine ⟨(by show 5 ≤ sizeLine; decide), fun l2 n2 => ?_⟩
    have ne2 := R.ne n2
    generalize hg : upd _ l2 _ = H2
    obtain ⟨s2, g2⟩ := upd_new hg n2
    clear hg
    have R := R.same s2
    refine ⟨_, rfl, r, 5, rfl, R, by decide, by decide, fun H3 b b3 R c0 c1 => ?_⟩
    have g2 := b3 _ _ ne2 g2
    obtain ⟨v, hv, mv⟩ := at_in (xs := [V.int 1, .int 1, .int 2, .int 8, .int (1 + (a : Int))]) c0 c1
    refine ⟨l2, _, b, v, rfl, rfl, SqL.of g2, hv, ?_⟩
    obtain ⟨m, rfl, m1, m8⟩ : ∃ m : Nat, v = .int (m : Int) ∧ 1 ≤ m ∧ m ≤ 8 := by
      simp only [List.mem_cons, List.not_mem_nil, or_false] at mv
      rcases mv with rfl | rfl | rfl | rfl | rfl
      · exact ⟨1, rfl, by decide, by decide⟩
      · exact ⟨1, rfl, by decide, by decide⟩
      · exact ⟨2, rfl, by decide, by decide⟩
      · exact ⟨8, rfl, by decide, by decide⟩
      · exact ⟨1 + a, by rw [show (1 : Int) + (a : Int) = ((1 + a : Nat) : Int) by omega], by omega, by omega⟩
    clear mv hv g2
    have b03 : But r H H3 := b1.trans ((But.of s2).trans b3)
    have hu := b03 _ _ nu hu
    clear b1 b3
    generalize H3 = HS at hu b03 R ⊢
    -- the letters
    refine ⟨⟨_, rfl⟩, _, rfl, (m : Int), rfl, by omega, by omega, fun D hD => ?_⟩
    have nD : D ≠ r := R.ne hD
    refine lc_it (walk_range (lo := 0) (n := ((m : Int) - 0).toNat)) (fun i H' => But r HS H' ∧ Rng H' r ∧ ∃ ys : List Str, H' D = some (.lst (ys.map V.str)) ∧ ys.length = i ∧ (∀ y ∈ ys, y.length = 1) ∧ ∀ y ∈ ys, ∀ c ∈ y.cps.toList, c ∈ (LET).cps.toList)
      ⟨But.of (same_upd hD), R.upd hD, [], upd_same, rfl, (fun y z => nomatch z), fun y z => nomatch z⟩ (fun _ _ _ _ => trivial) ?_ ?_
    · rintro j y H4 H5 hj ⟨b4, R4, ys, hY, yl, y1, y2⟩ ⟨rfl, rfl⟩
      refine ⟨rfl, ?_⟩
      dsimp only [tYes]
      refine iteT ?_
      refine ⟨_, rfl, _, rfl, r, 26, rfl, R4, by decide, by decide, fun H6 e b6 R6 e0 e1 => ?_⟩
      obtain ⟨c, hc, mc⟩ := at_in (xs := (LET).cps.toList) e0 (by rw [show (LET).cps.toList.length = 26 by decide +kernel]; exact e1)
      refine ⟨LET, e, c, rfl, rfl, (by decide +kernel), hc, _, b6 D _ nD hY, ?_, ?_, ?_, ys ++ [⟨#[c]⟩], ?_, ?_, ?_, ?_⟩
      · rw [List.length_map, yl]
        exact small200 (by omega)
      · exact (b4.trans b6).upd hD
      · exact R6.upd2 nD
      · rw [upd_same, List.map_append]
        rfl
      · rw [List.length_append, yl]
        rfl
      · intro y hy'
        rcases List.mem_append.mp hy' with z | z
        · exact y1 y z
        · rw [List.mem_singleton.mp z]
          rfl
      · intro y hy'
        rcases List.mem_append.mp hy' with z | z
        · exact y2 y z
        · rw [List.mem_singleton.mp z]
          intro c' hc'
          have hc2 : c' ∈ [c] := hc'
          rw [List.mem_singleton.mp hc2]
          exact mc
    rintro H4 ⟨b4, R4, ys, hY, yl, y1, y2⟩
    refine ⟨"", D, ys, rfl, rfl, .inl (SqL.of hY), ?_, ?_⟩
    · have e1 : (ys.map (·.length)).sum ≤ ys.length := sum_ones ys y1
      show (ys.map (·.length)).sum + ys.length * 0 ≤ 16777216
      omega
    rw [TL.join_eq]
    have jl := join_len ys y1
    have ji := join_in ys y2
    generalize Str.join "" ys = x0 at jl ji ⊢
    clear y1 y2 hY
    have nm1 : Nm x0 := ⟨by omega, by omega, ji⟩
    have b04 := b03.trans b4
    have hu := b4 _ _ nu hu
    have R := R4
    clear b4 R4 jl ji yl
    -- others
    refine ⟨_, rfl, (by show 1 ≤ sizeLine; decide), fun l6 n6 => ?_⟩
    generalize hg : upd _ l6 _ = H6
    obtain ⟨s6, g6⟩ := upd_new hg n6
    clear hg
    refine ⟨_, rfl, LET, rfl, fun D9 hD9 => ?_⟩
    refine lc_it (walk_str (z := LET)) (fun i H' => Same H6 H' ∧ H' D9 = some (.lst (((LET.cps.toList.take i).map (tl x0)).map V.str)))
      ⟨same_upd hD9, upd_same⟩ (fun _ _ _ _ => trivial) ?_ ?_
    · rintro j y H7 H8 hj ⟨sm, hZ⟩ ⟨rfl, c, hc, rfl⟩
      have hc' : LET.cps.toList[j]? = some c := by rw [Array.getElem?_toList]; exact hc
      refine ⟨rfl, ?_⟩
      dsimp only [tYes]
      refine iteT ?_
      have n8 := nm1.2.1
      have n7 : (cutS x0 none (some 7)).length ≤ 8 := by
        rw [show (some 7 : Option Int) = some ((7 : Nat) : Int) from rfl, cut_some]
        show (x0.cps.toList.take (min 7 x0.length)).toArray.size ≤ 8
        rw [List.size_toArray, List.length_take]
        omega
      refine ⟨_, rfl, 7, rfl, x0, rfl, le200 (by omega), _, rfl, _, _, rfl, rfl, (by show (cutS x0 none (some 7)).length + 1 ≤ sizeLine; exact le200 (by omega)), _, hZ, ?_, same_upd2 sm hD9, ?_⟩
      · rw [List.length_map, List.length_map, List.length_take]
        have : LET.cps.size = 26 := by decide +kernel
        exact small200 (by omega)
      · rw [upd_same, List.take_add_one, hc', List.map_append, List.map_append]
        rfl
    rintro H7 ⟨sm7, hZ⟩
    rw [List.take_of_length_le (by rw [Array.length_toList]; exact Nat.le_refl _)] at hZ
    refine ⟨l6, D9, _, _, rfl, rfl, sm7 _ _ g6, hZ, ?_, fun p hp => ?_⟩
    · rw [List.length_map, List.length_map, show LET.cps.toList.length = 26 by decide +kernel]
      exact le200 (show 1 + 26 ≤ 10000 by decide)
    generalize hg : upd _ p _ = H8
    obtain ⟨s8, hT⟩ := upd_new hg hp
    clear hg
    have hT : H8 p = some (.lst ((triesOf x0).map V.str)) := hT
    have s48 := s6.trans (sm7.trans s8)
    have hu := s48 _ _ hu
    have R := R.same s48
    have b08 := b04.trans (But.of s48)
    clear g6 hZ
    -- the first that is not used
    refine ⟨_, rfl, p, rfl, ⟨_, SqL.of hT⟩, fun D hD => ?_⟩
    refine lc_it (walk_list (K := K) (a := p) (xs := (triesOf x0).map V.str)) (fun i H' => Same H8 H' ∧ H' D = some (.lst ((((triesOf x0).take i).filter (fun y => decide (y ∉ us))).map V.str)))
      ⟨same_upd hD, upd_same⟩ (fun i H' _ h => SqL.of (h.1 _ _ hT)) ?_ ?_
    · rintro j y H9 H10 hj ⟨sm, hZ⟩ ⟨rfl, hy⟩
      rw [List.getElem?_map] at hy
      obtain ⟨z, hz, rfl⟩ := Option.map_eq_some_iff.mp hy
      refine ⟨rfl, ?_⟩
      refine ⟨_, rfl, _, rfl, ua, _, rfl, .inl (SqL.of (sm _ _ hu)), rfl, flat_strs _, _, rfl, ite2 (fun c8 => ?_) (fun c8 => ?_)⟩
      · have c8' : (!inV (.str z) (us.map V.str)) = true := c8
        rw [inV_strs] at c8'
        have nz : z ∉ us := fun w => by
          rw [decide_eq_true w] at c8'
          cases c8'
        refine ⟨_, rfl, _, hZ, ?_, same_upd2 sm hD, ?_⟩
        · rw [List.length_map]
          refine small200 (Nat.le_trans (List.length_filter_le _ _) ?_)
          rw [List.length_take]
          have : (triesOf x0).length = 27 := by
            show (LET.cps.toList.map (tl x0)).length + 1 = 27
            rw [List.length_map, show LET.cps.toList.length = 26 by decide +kernel]
          omega
        · rw [upd_same, List.take_add_one, hz, List.filter_append, List.map_append]
          show some (HO.lst _) = some (HO.lst (_ ++ (List.filter _ [z]).map V.str))
          rw [List.filter_cons_of_pos (by exact decide_eq_true nz)]
          rfl
      · have c8' : ¬ (!inV (.str z) (us.map V.str)) = true := c8
        rw [inV_strs] at c8'
        have nz : z ∈ us := by
          cases w : decide (z ∈ us) with
          | true => exact of_decide_eq_true w
          | false => exact absurd (by rw [w]; rfl) c8'
        refine ⟨sm, ?_⟩
        rw [hZ, List.take_add_one, hz, List.filter_append]
        show some (HO.lst _) = some (HO.lst ((_ ++ List.filter _ [z]).map V.str))
        rw [List.filter_cons_of_neg (by simpa using nz), List.filter_nil, List.append_nil]
    rintro H9 ⟨s9, hZ⟩
    rw [List.length_map, List.take_of_length_le (Nat.le_refl _)] at hZ
    obtain ⟨z, zs, ez⟩ := tries_out (x := x0) (xs := us) (by omega)
    rw [ez] at hZ
    have mz : z ∈ (triesOf x0).filter (fun y => decide (y ∉ us)) := by rw [ez]; exact List.mem_cons_self
    have nz := tries_nm nm1 z (List.mem_filter.mp mz).1
    exact ⟨D, _, 0, .str z, rfl, rfl, SqL.of hZ, atI_nat (j := 0) rfl, q _ z (b08.trans (But.of s9)) (R.same s9) nz (by simpa using (List.mem_filter.mp mz).2)⟩
def spWordD : Sp := fun vs H Q _ => ∃ r : Addr, vs = [.ref r] ∧ Rng H r ∧ ∀ H' x, But r H H' → Rng H' r → A0 (.str x) → isWord (.str x) = true → Q (.str x) H'
theorem ok_wordD {f : Addr} {fd : FuncData} (F : Fun K "_law_word" "_law_word" s_law_word f fd) (Y : Bn mg) (G_law_draw : Fk P w K mg base CX0 1 "_law_draw" ["_law_pot_here", "_law_many"] spDraw) : FnOk P w K mg base CX0 2 f fd ["_law_pot_here"] spWordD := by
  refine F.ok sc_law_word (fun vs H Q E h => ?_) (fun cdv A outer s H vs Q E hr h => ?_)
  · obtain ⟨r, rfl, _⟩ := h
    rfl
  · obtain ⟨r, rfl, R, q⟩ := h
    refine ⟨_, (pss_cons (ps_set (i := 1) sc_law_word.nd rfl (.inr rfl) pe_str)
 (pss_cons (ps_set (i := 2) sc_law_word.nd rfl (.inl rfl) (pe_ix ix_list (pe_lst (pa_cons pe_int (pa_cons pe_int (pa_cons pe_int (pa_cons (pe_op op_add pe_int (pe_callF G_law_draw (hr.mono (by decide)) (by rfl) pass0 (pa_cons (pv 0) (pa_cons pe_int pa_nil)))) pa_nil))))) (pe_callF G_law_draw (hr.mono (by decide)) (by rfl) pass0 (pa_cons (pv 0) (pa_cons pe_int pa_nil))) (fun _ _ => rfl)))
 (pss_one (ps_ret (pe_join pe_str (pe_lc (own := [("_law_k", 3)]) (g := gName 3) (tt := tYes) rfl sc_law_word.nd (pi_range1 (by rfl) Y.range (pa_cons (pv 2) pa_nil)) (blkOk_by (N := ["_law_pot_here", "_law_signs", "_law_size", "_law_k"]) (sc := defScope s_law_word) (by decide +kernel)) (fun _ _ _ _ _ => (pg_name (i := 3) sc_law_word.nd rfl (Or.inl rfl))) (fun _ _ _ _ _ => pts_nil) (fun _ _ _ _ _ => (pe_ix ix_str (pv 1) (pe_callF G_law_draw (hr.mono (by decide)) (by rfl) pass0 (pa_cons (pv 0) (pa_cons pe_int pa_nil))) (fun _ _ => rfl))))))))), ?_⟩
    refine ⟨_, rfl, r, 12, rfl, R, by decide, by decide, fun H1 a b1 R a0 a1 => ⟨_, _, rfl, rfl, ?_⟩⟩
    obtain ⟨a, rfl⟩ := Int.eq_ofNat_of_zero_le a0
    refine ⟨(by show 4 ≤ sizeLine; decide), fun l2 n2 => ?_⟩
    have ne2 := R.ne n2
    generalize hg : upd _ l2 _ = H2
    obtain ⟨s2, g2⟩ := upd_new hg n2
    clear hg
    have R := R.same s2
    refine ⟨_, rfl, r, 4, rfl, R, by decide, by decide, fun H3 b b3 R c0 c1 => ?_⟩
    have g2 := b3 _ _ ne2 g2
    obtain ⟨v, hv, mv⟩ := at_in (xs := [V.int 1, .int 2, .int 12, .int (1 + (a : Int))]) c0 c1
    refine ⟨l2, _, b, v, rfl, rfl, SqL.of g2, hv, ?_⟩
    obtain ⟨m, rfl, m1, m8⟩ : ∃ m : Nat, v = .int (m : Int) ∧ 1 ≤ m ∧ m ≤ 12 := by
      simp only [List.mem_cons, List.not_mem_nil, or_false] at mv
      rcases mv with rfl | rfl | rfl | rfl
      · exact ⟨1, rfl, by decide, by decide⟩
      · exact ⟨2, rfl, by decide, by decide⟩
      · exact ⟨12, rfl, by decide, by decide⟩
      · exact ⟨1 + a, by rw [show (1 : Int) + (a : Int) = ((1 + a : Nat) : Int) by omega], by omega, by omega⟩
    clear mv hv g2
    have b03 : But r H H3 := b1.trans ((But.of s2).trans b3)
    clear b1 b3
    generalize H3 = HS at b03 R ⊢
    refine ⟨⟨_, rfl⟩, _, rfl, (m : Int), rfl, by omega, by omega, fun D hD => ?_⟩
    have nD : D ≠ r := R.ne hD
    refine lc_it (walk_range (lo := 0) (n := ((m : Int) - 0).toNat)) (fun i H' => But r HS H' ∧ Rng H' r ∧ ∃ ys : List Str, H' D = some (.lst (ys.map V.str)) ∧ ys.length = i ∧ (∀ y ∈ ys, y.length = 1) ∧ ∀ y ∈ ys, ∀ c ∈ y.cps.toList, c ∈ (WSG).cps.toList)
      ⟨But.of (same_upd hD), R.upd hD, [], upd_same, rfl, (fun y z => nomatch z), fun y z => nomatch z⟩ (fun _ _ _ _ => trivial) ?_ ?_
    · rintro j y H4 H5 hj ⟨b4, R4, ys, hY, yl, y1, y2⟩ ⟨rfl, rfl⟩
      refine ⟨rfl, ?_⟩
      dsimp only [tYes]
      refine iteT ?_
      refine ⟨_, rfl, _, rfl, r, 36, rfl, R4, by decide, by decide, fun H6 e b6 R6 e0 e1 => ?_⟩
      obtain ⟨c, hc, mc⟩ := at_in (xs := (WSG).cps.toList) e0 (by rw [show (WSG).cps.toList.length = 36 by decide +kernel]; exact e1)
      refine ⟨WSG, e, c, rfl, rfl, (by decide +kernel), hc, _, b6 D _ nD hY, ?_, ?_, ?_, ys ++ [⟨#[c]⟩], ?_, ?_, ?_, ?_⟩
      · rw [List.length_map, yl]
        exact small200 (by omega)
      · exact (b4.trans b6).upd hD
      · exact R6.upd2 nD
      · rw [upd_same, List.map_append]
        rfl
      · rw [List.length_append, yl]
        rfl
      · intro y hy'
        rcases List.mem_append.mp hy' with z | z
        · exact y1 y z
        · rw [List.mem_singleton.mp z]
          rfl
      · intro y hy'
        rcases List.mem_append.mp hy' with z | z
        · exact y2 y z
        · rw [List.mem_singleton.mp z]
          intro c' hc'
          have hc2 : c' ∈ [c] := hc'
          rw [List.mem_singleton.mp hc2]
          exact mc
    rintro H4 ⟨b4, R4, ys, hY, yl, y1, y2⟩
    refine ⟨"", D, ys, rfl, rfl, .inl (SqL.of hY), ?_, ?_⟩
    · have e1 : (ys.map (·.length)).sum ≤ ys.length := sum_ones ys y1
      show (ys.map (·.length)).sum + ys.length * 0 ≤ 16777216
      omega
    rw [TL.join_eq]
    have jl := join_len ys y1
    have ji := join_in ys y2
    generalize Str.join "" ys = x0 at jl ji ⊢
    clear y1 y2 hY
    have iw : isWord (.str x0) = true := by
      show (decide ((1 : Int) ≤ (x0.length : Int)) && decide ((x0.length : Int) ≤ 12) && allIn WSG x0) = true
      rw [decide_eq_true (by omega), decide_eq_true (by omega)]
      exact List.all_eq_true.mpr fun c hc => decide_eq_true (ji c hc)
    refine q _ x0 (b03.trans b4) R4 (a0_txt ?_) iw
    rw [Bool.and_eq_true, decide_eq_true_eq]
    refine ⟨by omega, List.all_eq_true.mpr fun c hc => ?_⟩
    have z : ∀ d ∈ WSG.cps.toList, d < 16 ^ 8 := by decide +kernel
    exact decide_eq_true (z c (ji c hc))
def spPathD (K : PySem.W.Frag) : Sp := fun vs H Q _ => ∃ r : Addr, vs = [.ref r] ∧ Rng H r ∧ ∀ H' (t : Addr) (xs : List Str), But r H H' → Rng H' r → Tz H' t (xs.map V.str) → 3 ≤ xs.length → xs.length ≤ 12 → (∀ x ∈ xs, Nm x) → xs.Nodup → Q (.ref t) H'
theorem ok_pathD {f : Addr} {fd : FuncData} (F : Fun K "_law_path" "_law_path" s_law_path f fd) (Y : Bn mg) (G_law_draw : Fk P w K mg base CX0 1 "_law_draw" ["_law_pot_here", "_law_many"] spDraw) (G_law_name : Fk P w K mg base CX0 2 "_law_name" ["_law_pot_here", "_law_used"] spName) :
    FnOk P w K mg base CX0 3 f fd ["_law_pot_here"] (spPathD K) := by
  refine F.ok sc_law_path (fun vs H Q E h => ?_) (fun cdv A outer s H vs Q E hr h => ?_)
  · obtain ⟨r, rfl, _⟩ := h
    rfl
  · obtain ⟨r, rfl, R, q⟩ := h
    refine ⟨_, (pss_cons (ps_set (i := 1) sc_law_path.nd rfl (.inl rfl) (pe_lst pa_nil))
 (pss_cons (ps_for PassesOwn.never rfl (pi_range1 (by rfl) Y.range (pa_cons (pe_ix ix_list (pe_lst (pa_cons pe_int (pa_cons pe_int (pa_cons (pe_op op_add pe_int (pe_callF G_law_draw (hr.mono (by decide)) (by rfl) pass0 (pa_cons (pv 0) (pa_cons pe_int pa_nil)))) pa_nil)))) (pe_callF G_law_draw (hr.mono (by decide)) (by rfl) pass0 (pa_cons (pv 0) (pa_cons pe_int pa_nil))) (fun _ _ => rfl)) pa_nil)) (pg_name (i := 2) sc_law_path.nd rfl (Or.inl rfl))
 (pss_one (ps_expr (pe_bm PySem.F.plainAttrs_list PySem.F.slot_list_append PySem.F.type_list_append mt_append (pv 1) (pa_cons (pe_callF G_law_name (hr.mono (by decide)) (by rfl) pass0 (pa_cons (pv 0) (pa_cons (pv 1) pa_nil))) pa_nil)))))
 (pss_one (ps_ret (pe_callTy call_tupOf (by rfl) Y.tuple (by decide +kernel) (pa_cons (pv 1) pa_nil)))))), ?_⟩
    refine ⟨(by show 0 ≤ sizeLine; decide), fun L nL => ?_⟩
    have neL := R.ne nL
    generalize hg : upd _ L _ = H1
    obtain ⟨s1, gL⟩ := upd_new hg nL
    clear hg
    have R := R.same s1
    refine ⟨_, rfl, r, 10, rfl, R, by decide, by decide, fun H2 a b2 R a0 a1 => ⟨_, _, rfl, rfl, ?_⟩⟩
    obtain ⟨a, rfl⟩ := Int.eq_ofNat_of_zero_le a0
    have gL := b2 _ _ neL gL
    refine ⟨(by show 3 ≤ sizeLine; decide), fun l3 n3 => ?_⟩
    have ne3 := R.ne n3
    generalize hg : upd _ l3 _ = H3
    obtain ⟨s3, g3⟩ := upd_new hg n3
    clear hg
    have R := R.same s3
    have gL := s3 _ _ gL
    refine ⟨_, rfl, r, 3, rfl, R, by decide, by decide, fun H4 b b4 R c0 c1 => ?_⟩
    have g3 := b4 _ _ ne3 g3
    have gL := b4 _ _ neL gL
    obtain ⟨v, hv, mv⟩ := at_in (xs := [V.int 3, .int 4, .int (3 + (a : Int))]) c0 c1
    refine ⟨l3, _, b, v, rfl, rfl, SqL.of g3, hv, ?_⟩
    obtain ⟨m, rfl, m3, m12⟩ : ∃ m : Nat, v = .int (m : Int) ∧ 3 ≤ m ∧ m ≤ 12 := by
      simp only [List.mem_cons, List.not_mem_nil, or_false] at mv
      rcases mv with rfl | rfl | rfl
      · exact ⟨3, rfl, by decide, by decide⟩
      · exact ⟨4, rfl, by decide, by decide⟩
      · exact ⟨3 + a, by rw [show (3 : Int) + (a : Int) = ((3 + a : Nat) : Int) by omega], by omega, by omega⟩
    have b04 : But r H H4 := (But.of s1).trans (b2.trans ((But.of s3).trans b4))
    refine ⟨(m : Int), rfl, by omega, by omega, ?_⟩
    refine for_it (walk_range (lo := 0) (n := ((m : Int) - 0).toNat)) (fun i σ H' => (∃ c, σ = [some (.ref r), some (.ref L), c]) ∧ But r H H' ∧ Rng H' r ∧ ∃ xs : List Str, H' L = some (.lst (xs.map V.str)) ∧ xs.length = i ∧ (∀ x ∈ xs, Nm x) ∧ xs.Nodup)
      ⟨⟨_, rfl⟩, b04, R, [], gL, rfl, (fun _ z => nomatch z), List.nodup_nil⟩ (fun _ _ _ _ _ => trivial) ?_ ?_
    · rintro i y σ H5 H6 hi ⟨⟨c, rfl⟩, b5, R5, xs, hL, el, nm, nd⟩ ⟨rfl, rfl⟩
      refine ⟨_, rfl, .inl ⟨rfl, _, SqL.of hL⟩, _, rfl, _, rfl, r, L, xs, rfl, R5, neL, hL, by omega, fun H7 x b7 R7 nx ni => ?_⟩
      have hL7 := b7 _ _ neL hL
      refine ⟨L, _, _, rfl, rfl, hL7, (by rw [List.length_map]; exact small200 (by omega)), ⟨_, rfl⟩, ?_, R7.upd2 neL, xs ++ [x], ?_, ?_, ?_, ?_⟩
      · refine fun b' o nb e => ?_
        rw [upd_ne (fun w => by rw [w, nL] at e; cases e)]
        exact (b5.trans b7) b' o nb e
      · rw [upd_same, List.map_append]
        rfl
      · rw [List.length_append, el]
        rfl
      · intro y hy
        rcases List.mem_append.mp hy with hy | hy
        · exact nm y hy
        · rw [List.mem_singleton.mp hy]
          exact nx
      · rw [List.nodup_append]
        exact ⟨nd, (List.nodup_cons.mpr ⟨(fun z => nomatch z), List.nodup_nil⟩), fun a ha b hb => by rw [List.mem_singleton.mp hb]; exact fun z => ni (z ▸ ha)⟩
    · rintro σ H5 ⟨⟨c, rfl⟩, b5, R5, xs, hL, el, nm, nd⟩
      refine ⟨_, rfl, L, _, rfl, SqL.of hL, (by rw [List.length_map]; omega), fun t o nt st tz => ?_⟩
      exact q _ t xs (b5.trans (But.of st)) (R5.same st) tz (by omega) (by omega) nm nd
/-- an entry: parts that are small -/
def Ent (L m : Nat) (ds : List PyData) : Prop := 1 ≤ ds.length ∧ ds.length ≤ L ∧ (∀ p ∈ ds, Bd 2 1700 p) ∧ ∀ p ∈ ds.tail, PT m p
def spEntD (K : PySem.W.Frag) : Sp := fun vs H Q _ => ∃ r : Addr, vs = [.ref r] ∧ Rng H r ∧ ∀ H' (t : Addr) (xs : List V) (ds : List PyData), But r H H' → Rng H' r → Tz H' t xs → Dbs K r H' xs ds → Ent 4 12 ds → isItem (.tuple ds) = true → Q (.ref t) H'
theorem pt_str {m : Nat} {x : Str} : PT m (.str x) := fun _ z => nomatch z
theorem pt_int {m : Nat} {i : Int} : PT m (.int i) := fun _ z => nomatch z
theorem a0_b2 {d : PyData} (h : A0 d) : Bd 2 1700 d := h.mono (by decide) (by decide)
theorem path_a0 {xs : List Str} (nm : ∀ x ∈ xs, Nm x) : ∀ d ∈ xs.map PyData.str, A0 d := fun d hd => by
  obtain ⟨x, hx, rfl⟩ := List.mem_map.mp hd
  exact a0_nm (nm x hx)
theorem ok_entD {f : Addr} {fd : FuncData} (F : Fun K "_law_entry" "_law_entry" s_law_entry f fd) (Y : Bn mg) (G_law_draw : Fk P w K mg base CX0 1 "_law_draw" ["_law_pot_here", "_law_many"] spDraw) (G_law_name : Fk P w K mg base CX0 2 "_law_name" ["_law_pot_here", "_law_used"] spName)
    (G_law_word : Fk P w K mg base CX0 2 "_law_word" ["_law_pot_here"] spWordD) (G_law_path : Fk P w K mg base CX0 3 "_law_path" ["_law_pot_here"] (spPathD K)) : FnOk P w K mg base CX0 4 f fd ["_law_pot_here"] (spEntD K) := by
  refine F.ok sc_law_entry (fun vs H Q E h => ?_) (fun cdv A outer s H vs Q E hr h => ?_)
  · obtain ⟨r, rfl, _⟩ := h
    rfl
  · obtain ⟨r, rfl, R, q⟩ := h
    refine ⟨_, (pss_cons (ps_set (i := 1) sc_law_entry.nd rfl (.inl rfl) (pe_callF G_law_draw (hr.mono (by decide)) (by rfl) pass0 (pa_cons (pv 0) (pa_cons pe_int pa_nil))))
 (pss_cons (ps_if (pt_cmpR op_lt (pv 1) pe_int (nomark _))
 (pss_one (ps_ret (pe_tupZ (pa_cons pe_str (pa_cons (pe_callF G_law_name (hr.mono (by decide)) (by rfl) pass0 (pa_cons (pv 0) (pa_cons (pe_lst pa_nil) pa_nil))) (pa_cons (pe_callF G_law_word (hr.mono (by decide)) (by rfl) pass0 (pa_cons (pv 0) pa_nil)) (pa_cons (pe_callF G_law_draw (hr.mono (by decide)) (by rfl) pass0 (pa_cons (pv 0) (pa_cons pe_int pa_nil))) pa_nil)))))))
 pss_nil)
 (pss_cons (ps_if (pt_cmpR op_eq (pv 1) pe_int (nomark _))
 (pss_one (ps_ret (pe_tupZ (pa_cons pe_str pa_nil))))
 pss_nil)
 (pss_cons (ps_set (i := 2) sc_law_entry.nd rfl (.inl rfl) (pe_callF G_law_path (hr.mono (by decide)) (by rfl) pass0 (pa_cons (pv 0) pa_nil)))
 (pss_cons (ps_set (i := 3) sc_law_entry.nd rfl (.inl rfl) (pe_op op_sub (pe_callB call_len_seq (by rfl) Y.len PySem.boot_len (pa_cons (pv 2) pa_nil)) pe_int))
 (pss_cons (ps_set (i := 4) sc_law_entry.nd rfl (.inl rfl) (pe_ix ix_list (pe_lst (pa_cons pe_int (pa_cons (pv 3) (pa_cons (pe_callF G_law_draw (hr.mono (by decide)) (by rfl) pass0 (pa_cons (pv 0) (pa_cons (pe_op op_add (pv 3) pe_int) pa_nil))) pa_nil)))) (pe_callF G_law_draw (hr.mono (by decide)) (by rfl) pass0 (pa_cons (pv 0) (pa_cons pe_int pa_nil))) (fun _ _ => rfl)))
 (pss_one (ps_ret (pe_tupZ (pa_cons (pe_ix ix_list (pe_lst (pa_cons pe_str (pa_cons pe_str (pa_cons pe_str (pa_cons pe_str (pa_cons pe_str pa_nil)))))) (pe_callF G_law_draw (hr.mono (by decide)) (by rfl) pass0 (pa_cons (pv 0) (pa_cons pe_int pa_nil))) (fun _ _ => rfl)) (pa_cons (pv 2) (pa_cons (pv 4) pa_nil)))))))))))), ?_⟩
    refine ⟨_, rfl, r, 8, rfl, R, by decide, by decide, fun H1 a b1 R a0 a1 => ?_⟩
    refine ⟨_, rfl, _, _, rfl, rfl, _, rfl, ite2 (fun c1 => ?_) (fun c1 => ?_)⟩
    · refine ⟨_, rfl, (by show 0 ≤ sizeLine; decide), fun l2 n2 => ?_⟩
      have ne2 := R.ne n2
      generalize hg : upd _ l2 _ = H2
      obtain ⟨s2, g2⟩ := upd_new hg n2
      clear hg
      refine ⟨r, l2, [], rfl, R.same s2, ne2, g2, by decide, fun H3 x b3 R nx _ => ?_⟩
      refine ⟨_, rfl, r, rfl, R, fun H4 y b4 R ny iw => ?_⟩
      refine ⟨_, rfl, r, 2, rfl, R, by decide, by decide, fun H5 b b5 R e0 e1 => ?_⟩
      obtain ⟨b, rfl⟩ := Int.eq_ofNat_of_zero_le e0
      refine ⟨(by show 4 ≤ sizeLine; decide), fun t o nt st tz => ?_⟩
      refine q _ t _ [.str "message", .str x, .str y, .int (b : Int)] (b1.trans ((But.of s2).trans (b3.trans (b4.trans (b5.trans (But.of st)))))) (R.same st) tz (.cons (.str _) (.cons (.str _) (.cons (.str _) (.cons (.int _) .nil)))) ⟨by show 1 ≤ 4; decide, by show 4 ≤ 4; decide, fun p hp => ?_, fun p hp => ?_⟩ (it_msg nx iw (by omega))
      · simp only [List.mem_cons, List.not_mem_nil, or_false] at hp
        rcases hp with rfl | rfl | rfl | rfl
        · exact a0_b2 a0_txt
        · exact a0_b2 (a0_nm nx)
        · exact a0_b2 ny
        · exact a0_b2 (a0_nat (by omega))
      · simp only [List.tail_cons, List.mem_cons, List.not_mem_nil, or_false] at hp
        rcases hp with rfl | rfl | rfl
        · exact pt_str
        · exact pt_str
        · exact pt_int
    refine ⟨_, rfl, rfl, _, rfl, ite2 (fun c2 => ?_) (fun c2 => ?_)⟩
    · refine ⟨(by show 1 ≤ sizeLine; decide), fun t o nt st tz => ?_⟩
      refine q _ t _ [.str "bye"] (b1.trans (But.of st)) (R.same st) tz (.cons (.str _) .nil) ⟨by show 1 ≤ 1; decide, by show 1 ≤ 4; decide, fun p hp => ?_, fun p hp => nomatch hp⟩ rfl
      rw [List.mem_singleton.mp hp]
      exact a0_b2 a0_txt
    refine ⟨_, rfl, r, rfl, R, fun H2 pa xs b2 R pz l3 l12 nm nd => ?_⟩
    refine ⟨_, rfl, pa, _, rfl, .inr pz.sq, _, _, rfl, rfl, ?_⟩
    rw [List.length_map]
    refine ⟨_, rfl, _, rfl, _, rfl, _, _, rfl, rfl, r, _, rfl, R, by omega, by omega, fun H3 c b3 R e0 e1 => ?_⟩
    obtain ⟨c, rfl⟩ := Int.eq_ofNat_of_zero_le e0
    have pz := pz.but (show Rng H2 r by assumption) b3
    refine ⟨(by show 3 ≤ sizeLine; decide), fun l4 n4 => ?_⟩
    have ne4 := R.ne n4
    generalize hg : upd _ l4 _ = H4
    obtain ⟨s4, g4⟩ := upd_new hg n4
    clear hg
    have R4 := R.same s4
    have pz := pz.same s4
    refine ⟨_, rfl, r, 3, rfl, R4, by decide, by decide, fun H5 i b5 R5 i0 i1 => ?_⟩
    have g4 := b5 _ _ ne4 g4
    have pz := pz.but R4 b5
    obtain ⟨v, hv, mv⟩ := at_in (xs := [V.int 0, .int ((xs.length : Int) - 2), .int (c : Int)]) i0 i1
    refine ⟨l4, _, i, v, rfl, rfl, SqL.of g4, hv, ?_⟩
    obtain ⟨k, rfl, k12, k2⟩ : ∃ k : Nat, v = .int (k : Int) ∧ k ≤ 12 ∧ k + 2 ≤ xs.length := by
      simp only [List.mem_cons, List.not_mem_nil, or_false] at mv
      rcases mv with rfl | rfl | rfl
      · exact ⟨0, rfl, by decide, by omega⟩
      · exact ⟨xs.length - 2, by rw [show (xs.length : Int) - 2 = ((xs.length - 2 : Nat) : Int) by omega], by omega, by omega⟩
      · exact ⟨c, rfl, by omega, by omega⟩
    clear mv hv g4
    refine ⟨(by show 5 ≤ sizeLine; decide), fun l6 n6 => ?_⟩
    have ne6 := R5.ne n6
    generalize hg : upd _ l6 _ = H6
    obtain ⟨s6, g6⟩ := upd_new hg n6
    clear hg
    have R6 := R5.same s6
    have pz := pz.same s6
    refine ⟨_, rfl, r, 5, rfl, R6, by decide, by decide, fun H7 j b7 R7 j0 j1 => ?_⟩
    have g6 := b7 _ _ ne6 g6
    have pz := pz.but R6 b7
    obtain ⟨v, hv, mv⟩ := at_in (xs := [V.str "ask", .str "no", .str "yes", .str "go", .str "back"]) j0 j1
    refine ⟨l6, _, j, v, rfl, rfl, SqL.of g6, hv, ?_⟩
    obtain ⟨kd, rfl, hk, mk⟩ : ∃ kd : Str, v = .str kd ∧ A0 (.str kd) ∧ kd ∈ KINDS := by
      simp only [List.mem_cons, List.not_mem_nil, or_false] at mv
      rcases mv with rfl | rfl | rfl | rfl | rfl
      · exact ⟨_, rfl, a0_txt, by decide +kernel⟩
      · exact ⟨_, rfl, a0_txt, by decide +kernel⟩
      · exact ⟨_, rfl, a0_txt, by decide +kernel⟩
      · exact ⟨_, rfl, a0_txt, by decide +kernel⟩
      · exact ⟨_, rfl, a0_txt, by decide +kernel⟩
    refine ⟨_, rfl, _, rfl, (by show 3 ≤ sizeLine; decide), fun t o nt st tz => ?_⟩
    refine q _ t _ [.str kd, .tuple (xs.map PyData.str), .int (k : Int)] (b1.trans (b2.trans (b3.trans ((But.of s4).trans (b5.trans ((But.of s6).trans (b7.trans (But.of st)))))))) (R7.same st) tz (.cons (.str _) (.cons (.tup (R7.same st) (pz.same st) (dbs_strs xs)) (.cons (.int _) .nil))) ⟨by show 1 ≤ 3; decide, by show 3 ≤ 4; decide, fun p hp => ?_, fun p hp => ?_⟩ (it_rel mk nm nd l3 k2)
    · simp only [List.mem_cons, List.not_mem_nil, or_false] at hp
      rcases hp with rfl | rfl | rfl
      · exact a0_b2 hk
      · exact (Bd.tup (path_a0 nm) (by rw [List.length_map]; exact l12) (by decide)).mono (by decide) (by decide)
      · exact a0_b2 (a0_nat (by omega))
    · simp only [List.tail_cons, List.mem_cons, List.not_mem_nil, or_false] at hp
      rcases hp with rfl | rfl
      · intro qs z
        injection z with z
        rw [← z]
        exact ⟨by rw [List.length_map]; exact l12, path_a0 nm⟩
      · exact pt_int
end
end My

/-! Defs that are called with keywords. -/
namespace My
open PySem PySem.Spec PyProof.Rows L2 Gy Xl Xs Xt
/-- a def of the top: n values by position, keywords ks; gV puts them into the parameters' order -/
structure Fw (P : Program) (w : World) (K : PySem.W.Frag) (mg : Str → Option Value) (base : Heap) (CX : CXT) (k : Nat) (nm : Str) (ps : List Str) (n : Nat) (ks : List Str) (gV : List V → List V → List V) (sp : Sp) : Prop where
  ex : ∃ (f : Addr) (fd : FuncData) (g : List Value → List Value → List Value), mg nm = some (.ref f) ∧ PySem.W.keepIn K (.ref f) = true ∧ KBn K fd ps n ks g gV ∧ FnOk P w K mg base CX k f fd ps sp
section
variable {X : Cx} {CX : CXT} {k n : Nat} {ps ks : List Str} {sp : Sp} {E : XK} {x : Str} {p pos : Pos} {e : Expr} {es : List Expr} {kws : List Keyword} {t tk : TA} {gV : List V → List V → List V}
theorem pe_callNF (F : Fw X.prog X.w X.K X.mg X.base CX k x ps n ks gV sp) (hr : Room k X.A) (hg : Gl X x) (hx : Passes CX X E) (ha : PA X (e :: es) t) (hkw : PK X kws tk)
    (hall : (backToKw pos (keywordEach kws X.env)).all (·.1.isSome) = true := by rfl) (hks : (backToKw pos (keywordEach kws X.env)).filterMap (·.1) = ks := by rfl) (hdb : (x == ("__debug__" : Str)) = false := by decide)
    (he : starEach (e :: es) X.env = (false, eval e X.env) :: starEach es X.env := by rfl) (hpl : ((backTo pos (starEach (e :: es) X.env)).any (·.1) || (backToKw pos (keywordEach kws X.env)).any (·.1.isNone)) = false := by rfl) :
    PE X (.Call (.Name x p) (e :: es) kws pos) (tCallN n ks.length sp gV E t tk) := by
  obtain ⟨f, fd, g, m, kp, b, G⟩ := F.ex
  exact pe_callN G hr hg m kp b hx ha hkw hall hks hdb he hpl
/-- f(k = v, ..) -/
def tCall0 (m : Nat) (sp : Sp) (gV : List V → List V → List V) (E : XK) (tk : TA) : TE := fun σ H Q => tk σ H fun zs H2 => zs.length = m ∧ sp (gV [] zs) H2 Q E
theorem pe_call0F (F : Fw X.prog X.w X.K X.mg X.base CX k x ps 0 ks gV sp) (hr : Room k X.A) (hg : Gl X x) (hx : Passes CX X E) (hkw : PK X kws tk)
    (hall : (backToKw pos (keywordEach kws X.env)).all (·.1.isSome) = true := by rfl) (hks : (backToKw pos (keywordEach kws X.env)).filterMap (·.1) = ks := by rfl) (hdb : (x == ("__debug__" : Str)) = false := by decide)
    (hpl : ((backTo pos (starEach [] X.env)).any (·.1) || (backToKw pos (keywordEach kws X.env)).any (·.1.isNone)) = false := by rfl) :
    PE X (.Call (.Name x p) [] kws pos) (tCall0 ks.length sp gV E tk) := by
  obtain ⟨f, fd, g, m, kp, b, G⟩ := F.ex
  constructor
  intro pins s σ H Q I h
  refine wpAny_Call_Name_kw (ld_glob I hg m ?_ hdb)
  refine PySem.W.callWith_KW0 (h₀ := X.base) I.ok.mod.kin kp hall (thn (hkw.run pos pins s σ H _ I h) ?_) hpl
  rintro ws s2 ⟨zs, H2, I2, rz, l2, q2⟩
  rw [hks]
  exact ⟨I2.kIn, run_fnN (us := []) G hr b hx I2 .nil rz rfl l2 q2⟩
end
theorem vals_back : ∀ {xs : List V} {us : List Value}, Vals xs us → Vals xs.reverse us.reverse
  | _, _, .nil => .nil
  | _, _, .cons h t => by
    rw [List.reverse_cons, List.reverse_cons]
    exact (vals_back t).append (.cons h .nil)
/-- the keywords in the parameters' order, or turned about -/
theorem kbn_fwd {K : PySem.W.Frag} {x qual : Str} {st : Stmt} {f : Addr} {fd : FuncData} {ps ks : List Str} {n : Nat} (F : Fun K x qual st f fd)
    (h : ∀ (kV doc pm : Value) (an : Option Addr) (cdv ct : Value) (us ws : List Value), us.length = n → ws.length = ks.length → bindArgs (PySem.W.fnOf x qual (defArgs st) (defBody st) (defScope st) .none kV doc pm an cdv ct) ⟨us, ks.zip ws⟩ = pure (ps.zip (us ++ ws))) :
    KBn K fd ps n ks (fun us ws => us ++ ws) (fun vs zs => vs ++ zs) := by
  obtain ⟨oc, od, kV, doc, pm, an, cdv, ct, osl, rfl, lk, hcd⟩ := F.ex
  exact ⟨fun s us ws _ h1 h2 => .of_eq (h kV doc pm an cdv ct us ws h1 h2), fun r z => r.append z⟩
theorem kbn_back {K : PySem.W.Frag} {x qual : Str} {st : Stmt} {f : Addr} {fd : FuncData} {ps ks : List Str} {n : Nat} (F : Fun K x qual st f fd)
    (h : ∀ (kV doc pm : Value) (an : Option Addr) (cdv ct : Value) (us ws : List Value), us.length = n → ws.length = ks.length → bindArgs (PySem.W.fnOf x qual (defArgs st) (defBody st) (defScope st) .none kV doc pm an cdv ct) ⟨us, ks.zip ws⟩ = pure (ps.zip (us ++ ws.reverse))) :
    KBn K fd ps n ks (fun us ws => us ++ ws.reverse) (fun vs zs => vs ++ zs.reverse) := by
  obtain ⟨oc, od, kV, doc, pm, an, cdv, ct, osl, rfl, lk, hcd⟩ := F.ex
  exact ⟨fun s us ws _ h1 h2 => .of_eq (h kV doc pm an cdv ct us ws h1 h2), fun r z => r.append (vals_back z)⟩
end My

/-! In an except suite: isinstance of the caught error with a tuple of classes. -/
namespace Xl
open PySem PySem.Spec PyProof.Rows L2 Gy Xt
def rIsT (K : PySem.W.Frag) (a : Addr) (cls : Value) (d : Option Addr) : List V → Hp → VK → Prop := fun xs H Q => ∃ (D dd tp : Addr) (fs : List (Str × V)) (cs : List V) (b : Bool),
  xs = [.ref a, .ref tp] ∧ cls = .ref D ∧ d = some dd ∧ H dd = some (.xd fs) ∧ XCl K D ∧ Tz H tp cs ∧ (∀ its, Vals cs its → PySem.W.kitAny K (.ref D) its = some b) ∧ Q (.bl b) H
theorem call_isT {X : Cx} {a : Addr} {oe : Obj} {cls : Value} {d : Option Addr} {pn : List (Addr × Obj)} (cg : PySem.W.specialIn X.K (.builtin "object.__class__") "__get__" = some (some (.builtin "getset_descriptor.__get__")))
    (ct : PySem.W.takesIn X.K (.builtin "object.__class__") = some true) (hz : Zc cls d oe) (hf : ∃ vs, oe.data = .fields vs) : CallR (X.suite a ((a, oe) :: pn)) (.builtin "isinstance") (rIsT X.K a cls d) := by
  intro pins s σ H xs us Q I r h
  obtain ⟨D, dd, tp, fs, cs, b, rfl, rfl, rfl, hd, T, hc, e, q⟩ := h
  obtain ⟨u1, u2, rfl, r1, r2⟩ := vals2 r
  cases r1
  cases r2
  obtain ⟨its, rv, ⟨o, ho, hcl, n, hda⟩, _⟩ := I.tuple hc.sq
  have e' := e its rv
  obtain ⟨ha, _⟩ := I.pin (a, oe) (List.mem_append_left _ List.mem_cons_self)
  obtain ⟨vs, hv⟩ := hf
  obtain ⟨mA, ns, _⟩ := (show ObjOk X.prog X.w H s.heap dd (.xd fs) from I.hok dd _ hd)
  obtain ⟨od, go, _⟩ := lookIn_ns ns
  have cl : (PySem.W.clsIn X.K D).isSome = true := by
    obtain ⟨cd, z, _⟩ := PySem.W.any_some T.hd
    rw [z]
    rfl
  have J : PySem.W.InstAt s.heap a oe D (some od) := by
    obtain ⟨oc, odd, oda, osl⟩ := oe
    obtain ⟨h1, h2⟩ := hz
    dsimp only at h1 h2 hv
    subst h1 h2 hv
    exact ⟨ha, rfl, rfl, go⟩
  obtain ⟨oc, od2, oda, osl⟩ := o
  dsimp only at hcl hda
  subst hcl hda
  exact PySem.W.kia_tup (its := its) (n := n) (PySem.W.kitx_exc cl T.ga T.gg T.ex T.ca cg ct T.ob) I.kIn J ho e' (fun z => nomatch z) fun tk => ⟨.bl b, H, I.tok tk, rfl, q⟩
end Xl

/-! An own exception of two fields raised; a call of what a subscript gives. -/
namespace Xl
open PySem PySem.Spec PyProof.Rows L2 Gy
def spI2 (C : Addr) (f1 f2 : Str) : Sp := fun vs H Q _ => ∃ (a : Addr) (v1 v2 : V), vs = [.ref a, v1, v2] ∧ H a = some (exo a C none) ∧
  ∀ dx, H dx = none → dx ≠ a → Q .non (upd (upd (upd H dx (exd dx [(f1, v1)])) a (exo a C (some dx))) dx (exd dx [(f2, v2), (f1, v1)]))
theorem del_made2 {H : Hp} {a dx C : Addr} {f1 f2 : Str} {v1 v2 : V} (n : H a = none) (ne : dx ≠ a) :
    upd (del (upd (upd (upd (upd H a (exo a C none)) dx (exd dx [(f1, v1)])) a (exo a C (some dx))) dx (exd dx [(f2, v2), (f1, v1)])) a) dx (.xd [(f2, v2), (f1, v1)]) = upd H dx (.xd [(f2, v2), (f1, v1)]) := by
  funext b
  by_cases h1 : b = dx
  · rw [h1, upd_same, upd_same]
  · rw [upd_ne h1, upd_ne h1]
    by_cases h2 : b = a
    · rw [h2, del_same, n]
    · rw [del_ne h2, upd_ne h1, upd_ne h2, upd_ne h1, upd_ne h2]
section
variable {X : Cx} {C fI : Addr} {fd : FuncData} {f1 f2 x : Str} {e e2 : Expr} {p pos : Pos}
/-- C(e, e2), to be raised -/
def tMk2 (C : Addr) (f1 f2 : Str) (t : TA) : L2.St → Hp → XK → Prop := fun σ H Q => t σ H fun vs H1 => ∃ v1 v2, vs = [v1, v2] ∧ ∀ d, H1 d = none → Q (.ref C) (some d) (upd H1 d (.xd [(f2, v2), (f1, v1)]))
theorem pmk_x2 {t : TA} (T : XIn X.K C fI) (ty : PySem.W.typeIn X.K (.ref C) = some (.type "type")) (F : FnOk X.prog X.w X.K X.mg X.base CX0 1 fI fd ["self", f1, f2] (spI2 C f1 f2)) (hr : Room 2 X.A)
    (hb : XB X.K fd ["self", f1, f2] [] (fun us _ => us) (fun vs _ => vs)) (hg : Gl X x) (hm : X.mg x = some (.ref C)) (ha : PA X [e, e2] t)
    (hdb : (x == ("__debug__" : Str)) = false := by decide) (hst : starEach [e, e2] X.env = (false, eval e X.env) :: starEach [e2] X.env := by rfl) (hpl : (backTo pos (starEach [e2] X.env)).any (·.1) = false := by rfl) :
    PMk X (.Call (.Name x p) [e, e2] [] pos) (tMk2 C f1 f2 t) := by
  intro pins s σ H Q I h
  refine wpAny_Call_Name_kw (ld_glob I hg hm ?_ hdb)
  refine PySem.W.callWith_K (h₀ := X.base) I.ok.mod.kin T.kp (thn (ha.run pos pins s σ H _ I h) ?_) hst hpl
  rintro us s1 ⟨vs, H1, I1, r1, v1, v2, rfl, q1⟩
  refine ⟨I1.kIn, ?_⟩
  show wpAny _ _ (call (.ref C) us) _ _ _
  obtain ⟨B, nI, iI, bmB, BF, _, ii, _⟩ := T.base
  obtain ⟨nm, N', qn, bs, bm, hdct, sn, sub, ab, col, dd, k0, k1, k2, k3, k5, cl, hT⟩ := PySem.W.excInit_of I1.kIn ii
  obtain ⟨hp, g', dr, tk', os⟩ := s1
  have big : hp.objs.size ≤ hp.objs.size + 1 := Nat.le_succ _
  have na : H1 (hp.objs.size + 1) = none := I1.hok.fresh big
  have keep : ∀ b o, hp.get? b = some o → ((hp.push (PySem.W.kdv_tup us)).push (PySem.PX.excO C hp.objs.size)).get? b = some o := fun b o e =>
    Heap.get?_push_of_some _ (Heap.get?_push_of_some _ e)
  have new : ((hp.push (PySem.W.kdv_tup us)).push (PySem.PX.excO C hp.objs.size)).get? (hp.objs.size + 1) = some (PySem.PX.excO C hp.objs.size) := by heap_get
  have I2 := I1.laid (t' := tk') (a := hp.objs.size + 1) (o := exo (hp.objs.size + 1) C none) keep big (exo_ok new)
  have r2 : Vals [V.ref (hp.objs.size + 1), v1, v2] (Value.ref (hp.objs.size + 1) :: us) := .cons rfl r1
  have hq : spI2 C f1 f2 [V.ref (hp.objs.size + 1), v1, v2] (upd H1 (hp.objs.size + 1) (exo (hp.objs.size + 1) C none))
      (fun r H2 => r = .non ∧ ∃ dx, dx ≠ hp.objs.size + 1 ∧ upd H1 (hp.objs.size + 1) (exo (hp.objs.size + 1) C none) dx = none ∧
        H2 = upd (upd (upd (upd H1 (hp.objs.size + 1) (exo (hp.objs.size + 1) C none)) dx (exd dx [(f1, v1)])) (hp.objs.size + 1) (exo (hp.objs.size + 1) C (some dx))) dx (exd dx [(f2, v2), (f1, v1)])) (fun _ _ _ => False) :=
    ⟨_, v1, v2, rfl, upd_same, fun dx nd ne => ⟨rfl, dx, ne, nd, rfl⟩⟩
  have bl := hb.to ⟨_, g', dr, tk', os⟩ (Value.ref (hp.objs.size + 1)) us [] I2.kIn (by rw [← r2.length]; rfl)
  refine wpAny_call (PySem.Xg.kw_call BF hT cl (PySem.W.looks_findIn I1.kIn T.ini) (fun self => PySem.W.bind_fn I1.kIn self T.tf) ?_ (codeAny_mono (F.run _ X.stack _ _ _ _ _ _ _ (hr.make C us []) (I2.env0.make C us []) bl r2 hq) ?_))
  · rw [← r1.length, sizeLine_eq]
    show 2 ≤ 16777216
    decide
  · rintro (er | (_ | _ | _ | u)) s' z
    · exact (show False from z).elim
    · exact z.elim
    · exact z.elim
    · exact z.elim
    · obtain ⟨r, H2, os2, bare2, un2, hok2, rv, er, dx, ne, nd, e2⟩ := z
      subst er
      obtain ⟨h2, g2, d2, t2, os'⟩ := s'
      subst e2
      refine ⟨rv, mk_end (raises_own T.ex ty) I1 big keep un2 hok2 os2 bare2 ((upd_ne ne.symm).trans upd_same) upd_same ((upd_ne ne).symm.trans nd) ?_⟩
      rw [del_made2 na ne]
      exact q1 dx ((upd_ne ne).symm.trans nd)
/-- raise C(e, e2) -/
theorem ps_raise2 {W : WX} {t : TA} {rp : Pos} (hc : X.calm = true) (tk : Takes X W) (T : XIn X.K C fI) (ty : PySem.W.typeIn X.K (.ref C) = some (.type "type")) (F : FnOk X.prog X.w X.K X.mg X.base CX0 1 fI fd ["self", f1, f2] (spI2 C f1 f2)) (hr : Room 2 X.A)
    (hb : XB X.K fd ["self", f1, f2] [] (fun us _ => us) (fun vs _ => vs)) (hg : Gl X x) (hm : X.mg x = some (.ref C)) (ha : PA X [e, e2] t)
    (hdb : (x == ("__debug__" : Str)) = false := by decide) (hst : starEach [e, e2] X.env = (false, eval e X.env) :: starEach [e2] X.env := by rfl) (hpl : (backTo pos (starEach [e2] X.env)).any (·.1) = false := by rfl) :
    PS X (.Raise (some (.Call (.Name x p) [e, e2] [] pos)) none rp) (fun _ σ H => tMk2 C f1 f2 t σ H fun cls d H' => W cls d σ H') :=
  ps_raise hc tk (pmk_x2 T ty F hr hb hg hm ha hdb hst hpl)
end
end Xl
namespace My
open PySem PySem.Spec PyProof.Rows L2 Gy Xl Xs Xt
/-- a class of errors with two fields: raised -/
structure Rz2 (P : Program) (w : World) (K : PySem.W.Frag) (mg : Str → Option Value) (base : Heap) (nm f1 f2 : Str) (C : Addr) : Prop where
  gm : mg nm = some (.ref C)
  ty : PySem.W.typeIn K (.ref C) = some (.type "type")
  ex : ∃ (fI : Addr) (fd : FuncData), XIn K C fI ∧ FnOk P w K mg base CX0 1 fI fd ["self", f1, f2] (spI2 C f1 f2) ∧ XB K fd ["self", f1, f2] [] (fun us _ => us) (fun vs _ => vs)
/-- what is wanted where C(v1, v2) is raised -/
def Ro2 (E : XK) (C : Addr) (f1 f2 : Str) (v1 v2 : V) (H : Hp) : Prop := ∀ H' dx, Same H H' → H' dx = some (.xd [(f2, v2), (f1, v1)]) → E (.ref C) (some dx) H'
theorem Ro2.same {E : XK} {C : Addr} {f1 f2 : Str} {v1 v2 : V} {H H1 : Hp} (h : Ro2 E C f1 f2 v1 v2 H) (s : Same H H1) : Ro2 E C f1 f2 v1 v2 H1 := fun H' dx s1 e => h H' dx (s.trans s1) e
/-- xs[i](e, ..): one of several defs -/
def tCallIx (S : Addr → Option Sp) (tf : TE) (t : TA) : TE := fun σ H Q => tf σ H fun v H1 => ∃ f sp, v = .ref f ∧ S f = some sp ∧ t σ H1 fun vs H2 => sp vs H2 Q (fun _ _ _ => False)
theorem pe_callIx {X : Cx} {k : Nat} {S : Addr → Option Sp} {a b e : Expr} {es : List Expr} {tf : TE} {t : TA} {p pos : Pos} (A : ∀ f sp, S f = some sp → Held X.prog X.w X.K X.mg X.base k f sp) (hr : Room k X.A) (hf : PE X (.Subscript a b p) tf) (ha : PA X (e :: es) t)
    (he : starEach (e :: es) X.env = (false, eval e X.env) :: starEach es X.env := by rfl) (hpl : (backTo pos (starEach es X.env)).any (·.1) = false := by rfl) : PE X (.Call (.Subscript a b p) (e :: es) [] pos) (tCallIx S tf t) := by
  refine ⟨fun pins s σ H Q I h => ?_⟩
  rw [show eval (.Call (.Subscript a b p) (e :: es) [] pos) X.env = (do callWith pos (← eval (.Subscript a b p) X.env) [] (backTo pos (starEach (e :: es) X.env)) (backToKw pos (keywordEach [] X.env))) from rfl]
  refine wpAny_bind (thn (hf.run pins s σ H _ I h) fun u s1 ⟨v, H1, I1, r1, f, sp, ev, hS, q1⟩ => ?_)
  subst ev
  cases r1
  obtain ⟨fd, ps, F, hk, hb⟩ := (A f sp hS).ex
  refine PySem.W.callWith_K (h₀ := X.base) I.ok.mod.kin hk (thn (ha.run pos pins s1 σ _ _ I1 q1) fun us s2 ⟨vs, H2, I2, r, q⟩ => ⟨I2.kIn, ?_⟩) he hpl
  have q' : sp (vs ++ []) H2 Q (fun _ _ _ => False) := by
    rw [List.append_nil]
    exact q
  exact run_fn F hr hb .nil (fun _ _ _ _ _ _ _ z => z.elim) I2 r q'
theorem Held.of {P : Program} {w : World} {K : PySem.W.Frag} {mg : Str → Option Value} {base : Heap} {k j : Nat} {f : Addr} {nm : Str} {ps : List Str} {sp : Sp} (F : Fk P w K mg base CX0 j nm ps sp) (h : j ≤ k) (m : mg nm = some (.ref f)) : Held P w K mg base k f sp := by
  obtain ⟨g, fd, m', kp, b, G⟩ := F.ex
  rw [m] at m'
  cases m'
  exact ⟨fd, ps, G.mono h, kp, b⟩
/-- f(e, ..) in a try -/
theorem pe_callSF {X : Cx} {CX : CXT} {k : Nat} {ps : List Str} {sp : Sp} {E : L2.St → XK} {x : Str} {p pos : Pos} {e : Expr} {es : List Expr} {t : TA} (F : Fk X.prog X.w X.K X.mg X.base CX k x ps sp) (hr : Room k X.A) (hg : Gl X x) (hx : ∀ σ, PassesAt CX X σ (E σ)) (ha : PA X (e :: es) t)
    (hdb : (x == ("__debug__" : Str)) = false := by decide) (he : starEach (e :: es) X.env = (false, eval e X.env) :: starEach es X.env := by rfl)
    (hpl : (backTo pos (starEach es X.env)).any (·.1) = false := by rfl) : PE X (.Call (.Name x p) (e :: es) [] pos) (tCallSD sp [] E t) := by
  obtain ⟨f, fd, m, kp, b, G⟩ := F.ex
  exact pe_callSD G hr hg m kp b .nil hx ha hdb he hpl
/-- what is known of a class of errors that is caught -/
structure Xc (K : PySem.W.Frag) (C R : Addr) : Prop where
  x : XCl K C
  em : PySem.W.exmOne K (.ref C) (.ref C) = some true
  ki : PySem.W.kitOne K (.ref C) (.ref R) = some true
theorem Xc.xf {K : PySem.W.Frag} {C R : Addr} (h : Xc K C R) : XfC K C := ⟨h.x.ga, h.x.gg, h.x.ex, h.x.hd⟩
/-- the class of an object, as the built-in isinstance asks for it -/
structure Cg (K : PySem.W.Frag) : Prop where
  cg : PySem.W.specialIn K (.builtin "object.__class__") "__get__" = some (some (.builtin "getset_descriptor.__get__"))
  ct : PySem.W.takesIn K (.builtin "object.__class__") = some true
end My

namespace My
open PySem PySem.Spec PyProof.Rows L2 Gy Xl Xs Xt
theorem join_all {p : Nat → Prop} {y : Str} (hy : ∀ c ∈ TL.tl y, p c) {xs : List Str} (h : ∀ x ∈ xs, ∀ c ∈ TL.tl x, p c) : ∀ c ∈ TL.tl (Txt.join y xs), p c := by
  rw [TL.join_eq]
  induction xs with
  | nil => exact fun c z => nomatch z
  | cons x xs ih =>
    cases xs with
    | nil => exact h x List.mem_cons_self
    | cons z r =>
      intro c hc
      have hc' : c ∈ TL.tl (x ++ y ++ Str.join y (z :: r)) := hc
      rw [TL.tl_append, TL.tl_append, List.mem_append, List.mem_append] at hc'
      rcases hc' with (q | q) | q
      · exact h x List.mem_cons_self c q
      · exact hy c q
      · exact ih (fun w hw => h w (List.mem_cons_of_mem _ hw)) c q
theorem num_lt {i : Nat} : ∀ c ∈ TL.tl (numS i), c < 0x110000 := by
  unfold numS
  rw [TL.tl_num]
  exact fun c hc => Nat.lt_of_le_of_lt (TL.numL_digits i c hc).2 (by decide)
theorem let_lt : ∀ c ∈ LET.cps.toList, c < 0x110000 := by decide +kernel
theorem wsg_lt : ∀ c ∈ WSG.cps.toList, c < 0x110000 := by decide +kernel
theorem kinds_lt {k : Str} (h : k ∈ KINDS) : ∀ c ∈ TL.tl k, c < 0x110000 := by
  unfold KINDS at h
  simp only [List.mem_cons, List.not_mem_nil, or_false] at h
  rcases h with rfl | rfl | rfl | rfl | rfl <;> decide +kernel
theorem so_of {x : Str} (h : ∀ c ∈ TL.tl x, c < 0x110000) : PyData.strOk x = true := by
  unfold PyData.strOk
  rw [← Array.all_toList, List.all_eq_true]
  exact fun c hc => decide_eq_true (h c hc)
theorem it_so {d : PyData} (h : ItC d) : PyData.strOk (itText d) = true := by
  refine so_of ?_
  rw [it_text h]
  refine join_all (by decide +kernel) ?_
  cases h with
  | msg w x b hw hx hb =>
    intro p hp
    have hp' : p ∈ [("message" : Str), w, x, numS b] := hp
    simp only [List.mem_cons, List.not_mem_nil, or_false] at hp'
    rcases hp' with rfl | rfl | rfl | rfl
    · decide +kernel
    · exact fun c hc => let_lt c ((host_in hw).2.2 c hc)
    · exact fun c hc => wsg_lt c ((word_in hx).2.2 c hc)
    · exact num_lt
  | bye =>
    intro p hp
    have hp' : p ∈ [("bye" : Str)] := hp
    rw [List.mem_singleton] at hp'
    subst hp'
    decide +kernel
  | ctl k xs c hk l3 cl ah =>
    intro p hp
    have hp' : p ∈ [k, Txt.join "," (txts (xs.map PyData.str)), numS c] := hp
    simp only [List.mem_cons, List.not_mem_nil, or_false] at hp'
    rcases hp' with rfl | rfl | rfl
    · exact kinds_lt hk
    · rw [txts_map]
      exact join_all (by decide +kernel) fun x hx c hc => let_lt c ((host_in (hosts_in ah x hx)).2.2 c hc)
    · exact num_lt
theorem ctl_len {k : Str} {xs : List Str} {c : PyData} (sm : sml (.tuple [.str k, .tuple (xs.map PyData.str), c]) = true) : xs.length ≤ 660 := by
  have z : (decide (3 ≤ 660) && (decide (k.length ≤ 640) && ((decide ((xs.map PyData.str).length ≤ 660) && smls (xs.map PyData.str)) && (sml c && true)))) = true := sm
  simp only [Bool.and_eq_true, decide_eq_true_eq, List.length_map] at z
  exact z.2.2.1.1
theorem it_bounds {d : PyData} (h : ItC d) (l12 : ∀ k ds c, d = .tuple [.str k, .tuple ds, c] → ds.length ≤ 12) : (itText d).length ≤ 121 ∧ ∀ p ∈ Txt.split (itText d) " ", p.length ≤ 108 := by
  rw [it_split h]
  cases h with
  | msg w x b hw hx hb =>
    have pl : ∀ p ∈ itParts (.tuple [.str "message", .str w, .str x, .int (b : Int)]), p.length ≤ 20 := fun p hp => by
      obtain ⟨e, he, rfl⟩ := List.mem_map.mp (show p ∈ ([.str "message", .str w, .str x, .int (b : Int)] : List PyData).map dText from hp)
      exact flatP_len (msg_flat hw hx hb e he)
    rw [it_text (.msg w x b hw hx hb)]
    exact ⟨Nat.le_trans (joinLen (m := 20) (n := 4) pl (Nat.le_refl _) rfl) (by decide), fun p hp => Nat.le_trans (pl p hp) (by decide)⟩
  | bye => decide +kernel
  | ctl k xs c hk l3 cl ah =>
    have l14 : xs.length ≤ 12 := by
      have := l12 k (xs.map PyData.str) _ rfl
      rw [List.length_map] at this
      exact this
    have jl : (Txt.join "," xs).length ≤ 12 * (8 + 1) := joinLen (fun x hx => (host_in (hosts_in ah x hx)).2.1) l14 rfl
    have lN : (numS c).length ≤ 4 := numS_len (by decide) (by show c < 10000; omega)
    have lk := (kinds_no hk).2
    constructor
    · show (Txt.join " " [k, Txt.join "," (txts (xs.map PyData.str)), numS c]).length ≤ 121
      rw [txts_map, join3, len_app, len_app, len_app, len_app]
      show _ + 1 + _ + 1 + _ ≤ _
      omega
    · intro p hp
      have hp' : p ∈ [k, Txt.join "," (txts (xs.map PyData.str)), numS c] := hp
      simp only [List.mem_cons, List.not_mem_nil, or_false] at hp'
      rcases hp' with rfl | rfl | rfl
      · omega
      · rw [txts_map]
        exact jl
      · omega
section
variable {P : Program} {w : World} {K : PySem.W.Frag} {mg : Str → Option Value} {base : Heap} {H : Hp}
def spLT (K : PySem.W.Frag) : Sp := fun vs H Q _ => ∃ (v : V) (d : PyData), vs = [v] ∧ Dn K H v d ∧ sml d = true ∧ isItem d = true ∧ ∀ H', Same H H' → Q (.str (itText d)) H'
theorem ok_lt {f : Addr} {fd : FuncData} (F : Fun K "_law_text" "_law_text" s_law_text f fd) (Y : Bn mg) : FnOk P w K mg base CX0 1 f fd ["_law_entry_here"] (spLT K) := by
  refine F.ok sc_law_text (fun vs H Q E h => ?_) (fun cdv A outer s H vs Q E hr h => ?_)
  · obtain ⟨v, d, rfl, _⟩ := h
    rfl
  · obtain ⟨v, d, rfl, dn, sm, ii, q⟩ := h
    refine ⟨_, (pss_cons (ps_if (pt_cmpR op_eq (pe_callB call_len_seq (by rfl) Y.len PySem.boot_len (pa_cons (pv 0) pa_nil)) pe_int (nomark _))
 (pss_one (ps_ret (pe_op op_add_str (pe_op op_add_str (pe_op op_add_str (pe_op op_add_str (pe_ix ix_tup (pv 0) pe_int (fun _ _ => rfl)) pe_str) (pe_join pe_str (pe_ix ix_tup (pv 0) pe_int (fun _ _ => rfl)))) pe_str) (pe_callTy call_str_int (by rfl) Y.str (by decide +kernel) (pa_cons (pe_ix ix_tup (pv 0) pe_int (fun _ _ => rfl)) pa_nil)))))
 pss_nil)
 (pss_one (ps_ret (pe_join pe_str (pe_lc (own := [("_law_part", 1)]) (g := gName 1) (tt := tYes) rfl sc_law_text.nd (pi_tup (pv 0)) (blkOk_by (N := ["_law_entry_here", "_law_part"]) (sc := defScope s_law_text) (by decide +kernel)) (fun _ _ _ _ _ => (pg_name (i := 1) sc_law_text.nd rfl (Or.inl rfl))) (fun _ _ _ _ _ => pts_nil) (fun _ _ _ _ _ => (pe_callTy call_strSI (by rfl) Y.str (by decide +kernel) (pa_cons (pv 1) pa_nil)))))))), ?_⟩
    have ic := it_cases ii
    have alt : (∃ (a : Addr) (xs : List V) (ds : List PyData), v = .ref a ∧ d = .tuple ds ∧ Tz H a xs ∧ Dns K H xs ds ∧ (∀ e ∈ ds, flatP e) ∧ ds.length ≤ 10 ∧ ds.length ≠ 3 ∧ itText (.tuple ds) = Txt.join " " (ds.map dText)) ∨
        ∃ (k : Str) (xs : List Str) (c : Nat), d = .tuple [.str k, .tuple (xs.map PyData.str), .int (c : Int)] ∧ k ∈ KINDS ∧ 3 ≤ xs.length ∧ c + 2 ≤ xs.length ∧ (xs.map PyData.str).all isHost = true := by
      cases ic with
      | msg w' x b hw hx hb =>
        cases dn with
        | tup ha hd => exact .inl ⟨_, _, _, rfl, rfl, ha, hd, msg_flat hw hx hb, (by show 4 ≤ 10; decide), (by show 4 ≠ 3; decide), rfl⟩
      | bye =>
        cases dn with
        | tup ha hd => exact .inl ⟨_, _, _, rfl, rfl, ha, hd, bye_flat, by decide, by decide, rfl⟩
      | ctl k xs c hk l3 cl ah => exact .inr ⟨k, xs, c, rfl, hk, l3, cl, ah⟩
    rcases alt with ⟨a, xs, ds, rfl, rfl, ha, hd, fl, l10, n3, et⟩ | ⟨k, xs, c, rfl, hk, l3, cl, ah⟩
    · have el := Dns.len hd
      refine ⟨_, rfl, a, _, rfl, .inr ha.sq, rfl, _, rfl, ?_⟩
      rw [decide_eq_false (show ¬ V.int (xs.length : Int) = V.int 3 from fun z => by injection z with z; omega)]
      refine iteF ?_
      refine ⟨⟨_, rfl⟩, _, rfl, a, rfl, ⟨_, ha.sq⟩, fun D hD => ?_⟩
      refine lc_it (walk_tup (K := K) (a := a) (xs := xs)) (fun i H' => Same H H' ∧ H' D = some (.lst (((ds.take i).map dText).map V.str))) ⟨same_upd hD, upd_same⟩ (fun i H' _ h => (ha.same h.1).sq) ?_ ?_
      · rintro i y H2 H3 hi ⟨s2, hL⟩ ⟨rfl, hy⟩
        obtain ⟨di, hdi, dni⟩ := Dns.get hd hy
        refine ⟨rfl, ?_⟩
        dsimp only [tYes]
        refine iteT ?_
        have lz : (((ds.take i).map dText).map V.str).length < sizeLine := by
          rw [List.length_map, List.length_map, List.length_take]
          exact small200 (by omega)
        have ez : ((ds.take (i + 1)).map dText).map V.str = ((ds.take i).map dText).map V.str ++ [V.str (dText di)] := by
          rw [List.take_add_one, hdi, List.map_append, List.map_append]
          rfl
        rcases fl di (List.mem_of_getElem? hdi) with ⟨z, rfl, lz'⟩ | ⟨j, rfl, lj⟩
        · cases dni
          refine ⟨_, rfl, .inl ⟨z, rfl, _, hL, lz, same_upd2 s2 hD, ?_⟩⟩
          rw [upd_same, ez]
          rfl
        · cases dni
          refine ⟨_, rfl, .inr ⟨_, rfl, log2_small (i := j) (k := 10) (by show j < 1024; omega) (by decide), _, hL, lz, same_upd2 s2 hD, ?_⟩⟩
          rw [upd_same, ez]
          rfl
      · rintro H2 ⟨s2, hL⟩
        rw [el, List.take_of_length_le (Nat.le_refl _)] at hL
        refine ⟨_, D, _, rfl, rfl, .inl (SqL.of hL), ?_, ?_⟩
        · have z : ((ds.map dText).map (·.length)).sum ≤ (ds.map dText).length * 20 := sum_le fun y hy => by
            obtain ⟨e, he, rfl⟩ := List.mem_map.mp hy
            exact flatP_len (fl e he)
          have y : ((" ": Str)).length = 1 := rfl
          rw [y, List.length_map] at *
          omega
        · rw [et] at q
          exact q _ s2
    · have l14 := ctl_len sm
      cases dn with
      | @tup a vs _ ha hd =>
      cases hd with
      | @cons x0 _ _ _ h0 hd =>
      cases h0
      cases hd with
      | @cons x1 _ _ _ h1 hd =>
      cases hd with
      | @cons x2 _ _ _ h2 hd =>
      cases hd
      cases h2
      cases h1 with
      | @tup b ys _ hb hx =>
      have ex := Dns.txts hx
      subst ex
      have jl : (Txt.join "," xs).length ≤ 660 * (8 + 1) := joinLen (fun x hx => (host_in (hosts_in ah x hx)).2.1) l14 rfl
      have lN : (numS c).length ≤ 4 := numS_len (by decide) (by show c < 10000; omega)
      have lk := (kinds_no hk).2
      refine ⟨_, rfl, a, _, rfl, .inr ha.sq, rfl, _, rfl, iteT ?_⟩
      refine ⟨_, rfl, a, _, 0, .str k, rfl, rfl, ha.sq, atI_nat (j := 0) rfl, _, _, rfl, rfl, le400 (by show _ + 1 ≤ _; omega), ?_⟩
      refine ⟨⟨_, rfl⟩, _, rfl, a, _, 1, .ref b, rfl, rfl, ha.sq, atI_nat (j := 1) rfl, _, b, xs, rfl, rfl, .inr hb.sq, ?_, ?_⟩
      · have z : (xs.map (·.length)).sum ≤ xs.length * 8 := sum_le fun x hx => (host_in (hosts_in ah x hx)).2.1
        have y : ((",": Str)).length = 1 := rfl
        rw [y]
        omega
      refine ⟨_, _, rfl, rfl, ?_, _, _, rfl, rfl, ?_, _, rfl, a, _, 2, .int (c : Int), rfl, rfl, ha.sq, atI_nat (j := 2) rfl, _, rfl, log2_small (i := c) (k := 10) (by show c < 1024; omega) (by decide), _, numS c, rfl, rfl, ?_, ?_⟩
      · rw [len_app]
        exact le400 (by show _ + 1 + _ ≤ _; omega)
      · rw [len_app, len_app]
        exact le400 (by show _ + 1 + _ + 1 ≤ _; omega)
      · rw [len_app, len_app, len_app]
        exact le400 (by show _ + 1 + _ + 1 + _ ≤ _; omega)
      have et : k ++ " " ++ Txt.join "," xs ++ " " ++ numS c = itText (.tuple [.str k, .tuple (xs.map PyData.str), .int (c : Int)]) := by
        show _ = Txt.join " " [k, Txt.join "," (txts (xs.map PyData.str)), numS c]
        rw [txts_map, join3]
      rw [← et] at q
      exact q _ (Same.refl _)
end
end My

namespace My
open PySem PySem.Spec PyProof.Rows L2 Gy Xl Xs Xt
/-! ### parts of a text -/
theorem spl1_free {s : Nat} : ∀ (l acc : List Nat), s ∉ acc → ∀ p ∈ TL.spl [s] 0 acc l, s ∉ p
  | [], acc, h, p, hp => by
    rw [TL.spl_nil] at hp
    rw [List.mem_singleton.mp hp]
    exact h
  | c :: r, acc, h, p, hp => by
    cases e : TL.pre [s] (c :: r) with
    | true =>
      rw [TL.spl_hit e] at hp
      rcases List.mem_cons.mp hp with rfl | hp
      · exact h
      · exact spl1_free r [] (fun z => nomatch z) p hp
    | false =>
      rw [TL.spl_miss e] at hp
      refine spl1_free r (acc ++ [c]) ?_ p hp
      rw [List.mem_append, List.mem_singleton]
      rintro (z | z)
      · exact h z
      · subst z
        have : ([s] == [s]) = false := e
        simp at this
theorem split_free {x p : Str} (h : p ∈ Txt.split x " ") : 32 ∉ TL.tl p := by
  have e := TL.split_spl x " " (by decide +kernel) (TL.kind_ok (by decide +kernel))
  have m : TL.tl p ∈ (Txt.split x " ").map TL.tl := List.mem_map_of_mem h
  rw [e] at m
  exact spl1_free (TL.tl x) [] (fun z => nomatch z) _ (show TL.tl p ∈ TL.spl [32] 0 [] (TL.tl x) from m)
theorem mem_join_sub {y p : Str} : ∀ {xs : List Str}, p ∈ xs → ∀ c ∈ TL.tl p, c ∈ TL.tl (Str.join y xs)
  | [x], h, c, hc => by
    rw [List.mem_singleton.mp h] at hc
    exact hc
  | x :: z :: r, h, c, hc => by
    show c ∈ TL.tl (x ++ y ++ Str.join y (z :: r))
    rw [TL.tl_append, TL.tl_append, List.mem_append, List.mem_append]
    rcases List.mem_cons.mp h with rfl | h
    · exact .inl (.inl hc)
    · exact .inr (mem_join_sub h c hc)
theorem part_sub {x y p : Str} (h : p ∈ Txt.split x y) : ∀ c ∈ TL.tl p, c ∈ TL.tl x := fun c hc => by
  have := mem_join_sub (y := y) h c hc
  rw [StrLaws.join_split] at this
  exact this
theorem split_ne (x : Str) : Txt.split x " " ≠ [] := fun z => by
  have e := TL.split_spl x " " (by decide +kernel) (TL.kind_ok (by decide +kernel))
  rw [z] at e
  have e' : ([] : List (List Nat)) = TL.spl [32] 0 [] (TL.tl x) := e
  have ne : ∀ (l acc : List Nat), TL.spl [32] 0 acc l ≠ [] := by
    intro l
    induction l with
    | nil =>
      intro acc z
      rw [TL.spl_nil] at z
      cases z
    | cons c r ih =>
      intro acc z
      cases h : TL.pre [32] (c :: r) with
      | true =>
        rw [TL.spl_hit h] at z
        cases z
      | false =>
        rw [TL.spl_miss h] at z
        exact ih _ z
  exact ne _ _ e'.symm
/-- how much room the parts take -/
def tot (ws : List Str) : Nat := (ws.map fun w => w.length + 1).sum
theorem tot_app (xs ys : List Str) : tot (xs ++ ys) = tot xs + tot ys := by
  unfold tot
  rw [List.map_append, List.sum_append]
theorem tot_one (x : Str) : tot [x] = x.length + 1 := by
  show x.length + 1 + 0 = _
  rfl
theorem join_tot : ∀ ws : List Str, ws ≠ [] → (Txt.join " " ws).length + 1 = tot ws := by
  intro ws
  rw [TL.join_eq]
  induction ws with
  | nil => exact fun h => absurd rfl h
  | cons w ws ih =>
    intro _
    cases ws with
    | nil => rw [tot_one]; rfl
    | cons v ws =>
      have := ih (fun z => nomatch z)
      show (w ++ " " ++ Str.join " " (v :: ws)).length + 1 = w.length + 1 + tot (v :: ws)
      rw [len_app, len_app]
      show w.length + 1 + _ + 1 = _
      omega
theorem join_tot_le (ws : List Str) : (Txt.join " " ws).length ≤ tot ws := by
  cases ws with
  | nil => exact Nat.le_refl _
  | cons w ws =>
    have := join_tot (w :: ws) (fun z => nomatch z)
    omega
theorem split_tot (x : Str) : tot (Txt.split x " ") = x.length + 1 := by
  rw [← join_tot _ (split_ne x), TL.join_eq, StrLaws.join_split]
theorem tot_take_drop (xs : List Str) (n : Nat) : tot (xs.take n) + tot (xs.drop n) = tot xs := by
  rw [← tot_app, List.take_append_drop]
theorem tot_drop_le (xs : List Str) (n : Nat) : tot (xs.drop (n + 1)) ≤ tot (xs.drop n) := by
  have := tot_take_drop (xs.drop n) 1
  rw [List.drop_drop] at this
  omega
theorem tot_set : ∀ (xs : List Str) (i : Nat) (y z : Str), xs[i]? = some z → tot (xs.set i y) + (z.length + 1) = tot xs + (y.length + 1)
  | x :: xs, 0, y, z, h => by
    have e : x = z := by simpa using h
    subst e
    show y.length + 1 + tot xs + _ = x.length + 1 + tot xs + _
    omega
  | x :: xs, i + 1, y, z, h => by
    have ih := tot_set xs i y z (by simpa using h)
    show x.length + 1 + tot (xs.set i y) + _ = x.length + 1 + tot xs + _
    omega
theorem tot_swap (xs : List Str) (i j : Nat) (y z : Str) (hi : xs[i]? = some z) (hj : xs[j]? = some y) : tot ((xs.set i y).set j z) = tot xs := by
  have a := tot_set xs i y z hi
  have e : (xs.set i y)[j]? = some y := by
    rw [List.getElem?_set]
    split
    · next h =>
      subst h
      split
      · rfl
      · next n => exact absurd (List.getElem?_eq_some_iff.mp hi).1 n
    · exact hj
  have b := tot_set (xs.set i y) j z y e
  omega
/-! ### numbers as the law reads them -/
def dig (c : Nat) : Bool := decide (c ∈ ("0123456789" : Str).cps.toList)
theorem dig_iff (c : Nat) : dig c = true ↔ 48 ≤ c ∧ c ≤ 57 := by
  unfold dig
  rw [decide_eq_true_eq]
  constructor
  · intro h
    have z : ∀ d ∈ ("0123456789" : Str).cps.toList, 48 ≤ d ∧ d ≤ 57 := by decide +kernel
    exact z c h
  · rintro ⟨h1, h2⟩
    have z : ∀ d : Fin 10, 48 + d.val ∈ ("0123456789" : Str).cps.toList := by decide +kernel
    have := z ⟨c - 48, by omega⟩
    rwa [show 48 + (c - 48) = c by omega] at this
def lawNum (x : Str) : Option Nat := if TL.tl x = [] ∨ ¬ (TL.tl x).all dig = true ∨ ((TL.tl x).head? = some 48 ∧ 1 < x.length) then none else some (NumText.digitsVal (TL.tl x))
theorem all_dig {cs : List Nat} (h : cs.all dig = true) : NumText.AllDigits cs := fun c hc => (dig_iff c).mp (List.all_eq_true.mp h c hc)
theorem to_of : ∀ {cs : List Nat}, NumText.AllDigits cs → (cs.map Char.ofNat).map Char.toNat = cs
  | [], _ => rfl
  | c :: cs, h => by
    have hc := h c List.mem_cons_self
    have z : ∀ d : Fin 10, (Char.ofNat (48 + d.val)).toNat = 48 + d.val := by decide +kernel
    have := z ⟨c - 48, by omega⟩
    simp only [show 48 + (c - 48) = c by omega] at this
    rw [List.map_cons, List.map_cons, this, to_of fun d hd => h d (List.mem_cons_of_mem _ hd)]
theorem lawNum_some {x : Str} {n : Nat} (h : lawNum x = some n) : numS n = x ∧ n = NumText.digitsVal (TL.tl x) ∧ TL.tl x ≠ [] ∧ NumText.AllDigits (TL.tl x) := by
  unfold lawNum at h
  split at h
  · cases h
  · next c =>
    injection h with h
    have ne : TL.tl x ≠ [] := fun z => c (.inl z)
    have al : (TL.tl x).all dig = true := Decidable.of_not_not fun z => c (.inr (.inl z))
    have nz : ¬ ((TL.tl x).head? = some 48 ∧ 1 < x.length) := fun z => c (.inr (.inr z))
    have ad := all_dig al
    refine ⟨TL.ext_tl ?_, h.symm, ne, ad⟩
    unfold numS
    rw [TL.tl_num, ← h]
    unfold TL.numL
    obtain ⟨m, hm⟩ : ∃ m, (TL.tl x).length = m + 1 := by
      cases e : TL.tl x with
      | nil => exact absurd e ne
      | cons c r => exact ⟨r.length, rfl⟩
    rw [NumText.toDigits_digitsVal m _ hm ad ?_, to_of ad]
    by_cases m0 : m = 0
    · exact .inl m0
    · refine .inr ?_
      cases e : TL.tl x with
      | nil => exact absurd e ne
      | cons c r =>
        refine ⟨c, r, rfl, ?_⟩
        have hc := ad c (by rw [e]; exact List.mem_cons_self)
        have : c ≠ 48 := fun z => nz ⟨by rw [e, z]; rfl, by rw [TL.len_tl]; omega⟩
        omega
theorem numL_head : ∀ n : Nat, 0 < n → ∃ c r, TL.numL n = c :: r ∧ 49 ≤ c := by
  intro n
  induction n using Nat.strongRecOn with
  | _ n ih =>
    intro h
    by_cases l : n < 10
    · exact ⟨48 + n, [], TL.numL_lt l, by omega⟩
    · obtain ⟨c, r, e, hc⟩ := ih (n / 10) (by omega) (by omega)
      refine ⟨c, r ++ [48 + n % 10], ?_, hc⟩
      rw [TL.numL_step (by omega), e]
      rfl
theorem lawNum_num (n : Nat) : lawNum (numS n) = some n := by
  unfold lawNum
  have e : TL.tl (numS n) = TL.numL n := by unfold numS; exact TL.tl_num n
  have len : (numS n).length = (TL.numL n).length := by rw [TL.len_tl, e]
  rw [e, if_neg]
  · rw [TL.numL_val]
  · rintro (z | z | ⟨z1, z2⟩)
    · exact TL.numL_ne n z
    · refine z (List.all_eq_true.mpr fun c hc => (dig_iff c).mpr (TL.numL_digits n c hc))
    · by_cases h : n = 0
      · rw [len, h, TL.numL_lt (by decide)] at z2
        exact absurd z2 (by decide)
      · obtain ⟨c, r, e2, hc⟩ := numL_head n (by omega)
        rw [e2] at z1
        injection z1 with z1
        omega
theorem pIdx_law (x : Str) (k : Nat) : pIdx x k = (match lawNum x with | some n => if n < k then some n else none | none => none) := by
  cases e : lawNum x with
  | some n =>
    have h := (lawNum_some e).1
    show _ = if n < k then some n else none
    split
    · next l =>
      rw [← h]
      exact pIdx_num l
    · next l =>
      cases p : pIdx x k with
      | none => rfl
      | some i =>
        obtain ⟨p1, p2, _⟩ := pIdx_some p
        have := numS_inj (p1.trans h.symm)
        omega
  | none =>
    show _ = none
    cases p : pIdx x k with
    | none => rfl
    | some i =>
      have := (pIdx_some p).1
      rw [← this, lawNum_num] at e
      cases e
/-- the data that the law reads from the parts of a text -/
def readOf : List Str → PyData
  | [k, w, x, b] => .tuple [.str k, .str w, .str x, oD (lawNum b)]
  | [k, p, c] => .tuple [.str k, .tuple ((Txt.split p ",").map PyData.str), oD (lawNum c)]
  | ps => .tuple (ps.map PyData.str)
theorem idx_same {x : Str} {m : Int} {n : Nat} (h : m.toNat = n) : isIdx m (oD (lawNum x)) = isIdx m (oD (pIdx x n)) ∧ (isIdx m (oD (lawNum x)) = true → oD (lawNum x) = oD (pIdx x n)) := by
  rw [pIdx_law]
  cases lawNum x with
  | none => exact ⟨rfl, fun _ => rfl⟩
  | some i =>
    show isIdx m (.int (i : Int)) = isIdx m (oD (if i < n then some i else none)) ∧ (isIdx m (.int (i : Int)) = true → PyData.int (i : Int) = oD (if i < n then some i else none))
    by_cases l : i < n
    · rw [if_pos l]
      exact ⟨rfl, fun _ => rfl⟩
    · rw [if_neg l]
      have z : isIdx m (.int (i : Int)) = false := by
        rw [isIdx_i, decide_eq_false (show ¬ (i : Int) < m by omega), Bool.and_false]
      rw [z]
      exact ⟨rfl, fun z => nomatch z⟩
theorem read4 (k w x : Str) (e : PyData) : isItem (.tuple [.str k, .str w, .str x, e]) = if k = "message" then isHost (.str w) && (isWord (.str x) && isIdx 2 e) else false := by
  show (if k = "message" then isHost (.str w) && (isWord (.str x) && isIdx 2 e) else if k = "bye" then false else decide (k ∈ KINDS) && isRel (.tuple [.str w, .str x, e])) = _
  split
  · rfl
  · split
    · rfl
    · show (decide (k ∈ KINDS) && false) = _
      rw [Bool.and_false]
theorem read3 (k : Str) (ds : List PyData) (e : PyData) : isItem (.tuple [.str k, .tuple ds, e]) = if k = "message" then false else if k = "bye" then false else decide (k ∈ KINDS) && (isPath (.tuple ds) && isIdx ((ds.length : Int) - 1) e) := rfl
theorem read_item (ps : List Str) : isItem (readOf ps) = isItem (itemOf ps) ∧ (isItem (readOf ps) = true → readOf ps = itemOf ps) := by
  match ps with
  | [] => exact ⟨rfl, fun _ => rfl⟩
  | [a] => exact ⟨rfl, fun _ => rfl⟩
  | [a, b] => exact ⟨rfl, fun _ => rfl⟩
  | a :: b :: c :: d :: e :: r => exact ⟨rfl, fun _ => rfl⟩
  | [k, w, x, b] =>
    have s := idx_same (x := b) (m := 2) (n := 2) rfl
    show isItem (.tuple [.str k, .str w, .str x, oD (lawNum b)]) = isItem (.tuple [.str k, .str w, .str x, oD (pIdx b 2)]) ∧ (isItem (.tuple [.str k, .str w, .str x, oD (lawNum b)]) = true → PyData.tuple [.str k, .str w, .str x, oD (lawNum b)] = .tuple [.str k, .str w, .str x, oD (pIdx b 2)])
    rw [read4, read4, s.1]
    refine ⟨rfl, fun h => ?_⟩
    split at h
    · simp only [Bool.and_eq_true] at h
      rw [s.2 (s.1.trans h.2.2)]
    · cases h
  | [k, p, c] =>
    have s := idx_same (x := c) (m := ((((Txt.split p ",").map PyData.str).length : Int) - 1)) (n := (Txt.split p ",").length - 1) (by rw [List.length_map]; omega)
    show isItem (.tuple [.str k, .tuple ((Txt.split p ",").map PyData.str), oD (lawNum c)]) = isItem (.tuple [.str k, .tuple ((Txt.split p ",").map PyData.str), oD (pIdx c ((Txt.split p ",").length - 1))]) ∧ (isItem (.tuple [.str k, .tuple ((Txt.split p ",").map PyData.str), oD (lawNum c)]) = true → PyData.tuple [.str k, .tuple ((Txt.split p ",").map PyData.str), oD (lawNum c)] = .tuple [.str k, .tuple ((Txt.split p ",").map PyData.str), oD (pIdx c ((Txt.split p ",").length - 1))])
    rw [read3, read3, s.1]
    refine ⟨rfl, fun h => ?_⟩
    split at h
    · cases h
    · split at h
      · cases h
      · simp only [Bool.and_eq_true] at h
        rw [s.2 (s.1.trans h.2.2)]
theorem parts_text : ∀ ps : List Str, (ps.map PyData.str).map dText = ps
  | [] => rfl
  | p :: ps => by
    show p :: _ = _
    rw [parts_text ps]
theorem idx_text {x : Str} {n : Nat} {m : Int} (h : isIdx m (oD (pIdx x n)) = true) : dText (oD (pIdx x n)) = x := by
  cases e : pIdx x n with
  | none =>
    rw [e] at h
    cases h
  | some i => exact (pIdx_some e).1
theorem parts_item {ps : List Str} (h : isItem (itemOf ps) = true) : itParts (itemOf ps) = ps := by
  match ps, h with
  | [], _ => rfl
  | [a], _ => rfl
  | [a, b], _ => rfl
  | a :: b :: c :: d :: e :: r, _ =>
    show ((a :: b :: c :: d :: e :: r).map PyData.str).map dText = _
    exact parts_text _
  | [k, w, x, b], h =>
    have h' : isItem (.tuple [.str k, .str w, .str x, oD (pIdx b 2)]) = true := h
    rw [read4] at h'
    split at h'
    · simp only [Bool.and_eq_true] at h'
      show [k, w, x, dText (oD (pIdx b 2))] = _
      rw [idx_text h'.2.2]
    · cases h'
  | [k, p, c], h =>
    have h' : isItem (.tuple [.str k, .tuple ((Txt.split p ",").map PyData.str), oD (pIdx c ((Txt.split p ",").length - 1))]) = true := h
    rw [read3] at h'
    split at h'
    · cases h'
    · split at h'
      · cases h'
      · simp only [Bool.and_eq_true] at h'
        show [k, Txt.join "," (txts ((Txt.split p ",").map PyData.str)), dText (oD (pIdx c ((Txt.split p ",").length - 1)))] = _
        rw [idx_text h'.2.2, txts_map, TL.join_eq, StrLaws.join_split]
theorem text_item {x : Str} (h : isItem (itemOf (Txt.split x " ")) = true) : itText (itemOf (Txt.split x " ")) = x := by
  rw [it_text (it_cases h), parts_item h, TL.join_eq, StrLaws.join_split]
/-! ### bounds -/
theorem smls_strs : ∀ {ps : List Str}, (∀ p ∈ ps, p.length ≤ 640) → smls (ps.map PyData.str) = true
  | [], _ => rfl
  | p :: ps, h => by
    show (decide (p.length ≤ 640) && smls (ps.map PyData.str)) = true
    rw [decide_eq_true (h p List.mem_cons_self), smls_strs fun q hq => h q (List.mem_cons_of_mem _ hq)]
    rfl
theorem sml_o (o : Option Nat) : sml (oD o) = true := by
  cases o <;> rfl
theorem sml_parts {ps : List Str} (l : ps.length ≤ 660) (h : ∀ p ∈ ps, p.length ≤ 640) : sml (readOf ps) = true ∧ sml (itemOf ps) = true := by
  have gen : sml (.tuple (ps.map PyData.str)) = true := by
    show (decide ((ps.map PyData.str).length ≤ 660) && smls (ps.map PyData.str)) = true
    rw [smls_strs h, decide_eq_true (by rw [List.length_map]; exact l)]
    rfl
  match ps, l, h, gen with
  | [], _, _, gen => exact ⟨gen, gen⟩
  | [a], _, _, gen => exact ⟨gen, gen⟩
  | [a, b], _, _, gen => exact ⟨gen, gen⟩
  | a :: b :: c :: d :: e :: r, _, _, gen => exact ⟨gen, gen⟩
  | [k, w, x, b], l, h, _ =>
    have z : ∀ o, sml (.tuple [.str k, .str w, .str x, oD o]) = true := fun o => by
      show (decide (4 ≤ 660) && (decide (k.length ≤ 640) && (decide (w.length ≤ 640) && (decide (x.length ≤ 640) && (sml (oD o) && true))))) = true
      rw [sml_o, decide_eq_true (h k (by simp)), decide_eq_true (h w (by simp)), decide_eq_true (h x (by simp))]
      rfl
    exact ⟨z _, z _⟩
  | [k, p, c], l, h, _ =>
    have z : ∀ o, sml (.tuple [.str k, .tuple ((Txt.split p ",").map PyData.str), oD o]) = true := fun o => by
      show (decide (3 ≤ 660) && (decide (k.length ≤ 640) && ((decide (((Txt.split p ",").map PyData.str).length ≤ 660) && smls ((Txt.split p ",").map PyData.str)) && (sml (oD o) && true)))) = true
      have lp := h p (by simp)
      have sl := PyProof.Rows.split_le p ","
      rw [sml_o, decide_eq_true (h k (by simp)), decide_eq_true (show ((Txt.split p ",").map PyData.str).length ≤ 660 by rw [List.length_map]; omega), smls_strs fun q hq => Nat.le_trans (part_le p hq) lp]
      rfl
    exact ⟨z _, z _⟩
theorem sml_text {x : Str} (l : x.length ≤ 640) : sml (readOf (Txt.split x " ")) = true ∧ sml (itemOf (Txt.split x " ")) = true :=
  sml_parts (by have := PyProof.Rows.split_le x " "; omega) fun p hp => Nat.le_trans (part_le x hp) l
theorem bd_txt {x : Str} {n : Nat} (h : x.length ≤ n) (n640 : n ≤ 640) (c : ∀ c ∈ TL.tl x, c < 0x110000) : Bd 0 n (.str x) := by
  refine ⟨rfl, ?_, Nat.zero_le _, h, decide_eq_true (by omega)⟩
  show (x.cps.toList.all fun c => decide (c < 16 ^ 8)) = true
  exact List.all_eq_true.mpr fun d hd => decide_eq_true (Nat.lt_trans (c d hd) (by decide))
theorem bd_nat {i : Nat} (h : i ≤ 1000) : Bd 0 12 (.int (i : Int)) := by
  have l : i.log2 < 11 := by
    by_cases z : i = 0
    · rw [z]
      decide
    · exact (Nat.log2_lt z).mpr (by show i < 2048; omega)
  refine ⟨?_, ?_, Nat.zero_le _, ?_, rfl⟩
  · show decide (i.log2 < 1920) = true
    exact decide_eq_true (by omega)
  · show decide ((numS i).length ≤ 40) = true
    exact decide_eq_true (Nat.le_trans (numS_len (k := 4) (by decide) (by show i < 10000; omega)) (by decide))
  · show (if ((i : Int) == 0) = true then 0 else i.log2 + 1) ≤ 12
    split <;> omega
theorem bd_item {d : PyData} (h : ItC d) (sm : sml d = true) : Bd 2 25000 d := by
  cases h with
  | msg w x b hw hx hb =>
    refine (Bd.tup (n := 0) (W := 20) (L := 4) (fun e he => ?_) (Nat.le_refl _) (by decide)).mono (by decide) (by decide)
    simp only [List.mem_cons, List.not_mem_nil, or_false] at he
    rcases he with rfl | rfl | rfl | rfl
    · exact bd_txt (by decide) (by decide) (by decide +kernel)
    · exact bd_txt (by have := (host_in hw).2.1; omega) (by decide) fun c hc => let_lt c ((host_in hw).2.2 c hc)
    · exact bd_txt (by have := (word_in hx).2.1; omega) (by decide) fun c hc => wsg_lt c ((word_in hx).2.2 c hc)
    · exact (bd_nat (by omega)).mono (by decide) (by decide)
  | bye =>
    refine (Bd.tup (n := 0) (W := 20) (L := 4) (fun e he => ?_) (by decide) (by decide)).mono (by decide) (by decide)
    rw [List.mem_singleton] at he
    subst he
    exact bd_txt (by decide) (by decide) (by decide +kernel)
  | ctl k xs c hk l3 cl ah =>
    have ln := ctl_len sm
    refine (Bd.tup (n := 1) (W := 5940) (L := 3) (fun e he => ?_) (Nat.le_refl _) (by decide)).mono (by decide) (by decide)
    simp only [List.mem_cons, List.not_mem_nil, or_false] at he
    rcases he with rfl | rfl | rfl
    · exact (bd_txt (n := 20) (by have := (kinds_no hk).2; omega) (by decide) (kinds_lt hk)).mono (by decide) (by decide)
    · refine Bd.tup (n := 0) (W := 8) (L := 660) (fun e he => ?_) (by rw [List.length_map]; exact ln) (by decide)
      obtain ⟨x, hx, rfl⟩ := List.mem_map.mp he
      exact bd_txt (host_in (hosts_in ah x hx)).2.1 (by decide) fun c hc => let_lt c ((host_in (hosts_in ah x hx)).2.2 c hc)
    · exact (bd_nat (by omega)).mono (by decide) (by decide)
theorem fits_two {s : Str} {d : PyData} (hs : Bd 0 20 (.str s)) (h : Bd 2 25000 d) : Fits (.tuple [.str s, d]) := by
  refine (Bd.tup (n := 2) (W := 25000) (L := 2) (fun e he => ?_) (Nat.le_refl _) (by decide)).fits (by decide) (by decide)
  simp only [List.mem_cons, List.not_mem_nil, or_false] at he
  rcases he with rfl | rfl
  · exact hs.mono (by decide) (by decide)
  · exact h
end My

namespace My
open PySem PySem.Spec PyProof.Rows L2 Gy Xl Xs Xt
def rYeSg : R2 := fun x y H Q => ∃ (c : Nat) (z : Str), x = .str ⟨#[c]⟩ ∧ y = .str z ∧ Q (.bl (decide (c ∈ z.cps.toList))) H
theorem tl_nil {x : Str} : TL.tl x = [] ↔ x = Str.empty := ⟨fun h => TL.ext_tl h, fun h => by rw [h]; rfl⟩
theorem filt_all {p : Nat → Bool} : ∀ {l : List Nat}, (l.filter p).length < l.length ↔ ¬ l.all p = true
  | [] => by simp
  | c :: l => by
    have ih := filt_all (p := p) (l := l)
    have le := List.length_filter_le p l
    rw [List.filter_cons, List.all_cons]
    cases h : p c with
    | true =>
      rw [if_pos rfl, List.length_cons, List.length_cons, Bool.true_and, ← ih]
      omega
    | false =>
      rw [if_neg (by decide), List.length_cons, Bool.false_and]
      exact ⟨fun _ z => (nomatch z), fun _ => by omega⟩
section
variable {P : Program} {w : World} {K : PySem.W.Frag} {mg : Str → Option Value} {base : Heap} {H : Hp}
def spNum : Sp := fun vs H Q _ => ∃ x : Str, vs = [.str x] ∧ x.length ≤ 640 ∧ ∀ H', Same H H' → Q (oV (lawNum x)) H'
theorem ok_num {f : Addr} {fd : FuncData} (F : Fun K "_law_number" "_law_number" s_law_number f fd) (Y : Bn mg) : FnOk P w K mg base CX0 1 f fd ["_law_word_here"] spNum := by
  refine F.ok sc_law_number (fun vs H Q E h => ?_) (fun cdv A outer s H vs Q E hr h => ?_)
  · obtain ⟨x, rfl, _⟩ := h
    rfl
  · obtain ⟨x, rfl, l6, q⟩ := h
    refine ⟨_, (pss_cons (ps_setLc (i := 1) (own := [("_law_sign", 2)]) (g := gName 2) (tt := tTest (tOp rYeSg (tVar 2) (tC (.str "0123456789")))) rfl sc_law_number.nd rfl rfl (sw_true rfl rfl rfl (by decide +kernel)) (pi_str (pv 0)) (blkOk_by (N := ["_law_word_here", "_law_digits", "_law_sign"]) (sc := defScope s_law_number) (by decide +kernel)) (fun _ _ _ _ _ => (pg_name (i := 2) sc_law_number.nd rfl (Or.inl rfl))) (fun _ _ _ _ _ => (pts_one (pt_cmpR (show OpR _ _ rYeSg from op_in_sign) (pv 2) pe_str rfl))) (fun _ _ _ _ _ => (pv 2)))
 (pss_cons (ps_if (PW.pt (pw_or (pt_cmpR op_eq (pv 0) pe_str (nomark _)) (pw_or (pt_cmpR op_lt (pe_callB call_len_seq (by rfl) Y.len PySem.boot_len (pa_cons (pv 1) pa_nil)) (pe_callB call_len_str (by rfl) Y.len PySem.boot_len (pa_cons (pv 0) pa_nil)) (nomark _)) (pw_or1 (PW.pt (pw_and (pt_cmpR op_eq (pe_ix ix_str (pv 0) pe_int (fun _ _ => rfl)) pe_str (nomark _)) (pw_and1 (pt_cmpR op_gt (pe_callB call_len_str (by rfl) Y.len PySem.boot_len (pa_cons (pv 0) pa_nil)) pe_int (nomark _)))))))))
 (pss_one (ps_ret pe_non))
 pss_nil)
 (pss_one (ps_ret (pe_callTy call_int_str (by rfl) Y.int (by decide +kernel) (pa_cons (pv 0) pa_nil)))))), ?_⟩
    refine ⟨_, rfl, x, rfl, fun D hD => ?_⟩
    refine lc_it (walk_str (z := x)) (fun i H' => Same H H' ∧ H' D = some (.lst (((x.cps.toList.take i).filter dig).map fun c => V.str ⟨#[c]⟩))) ⟨same_upd hD, upd_same⟩ (fun _ _ _ _ => trivial) ?_ ?_
    · rintro i y H1 H2 hi ⟨s1, hL⟩ ⟨rfl, c, hc, rfl⟩
      have hc' : x.cps.toList[i]? = some c := by rw [Array.getElem?_toList]; exact hc
      refine ⟨rfl, ?_⟩
      refine ⟨_, rfl, c, "0123456789", rfl, rfl, _, rfl, ite2 (fun c3 => ?_) (fun c3 => ?_)⟩
      · refine ⟨_, rfl, _, hL, ?_, same_upd2 s1 hD, ?_⟩
        · rw [List.length_map]
          refine small200 (Nat.le_trans (List.length_filter_le _ _) ?_)
          rw [List.length_take, Array.length_toList]
          have lx' : x.cps.size ≤ 640 := l6
          omega
        · rw [upd_same, List.take_add_one, hc', List.filter_append, List.map_append]
          show some (HO.lst _) = some (HO.lst (_ ++ (List.filter _ [c]).map _))
          rw [List.filter_cons_of_pos (by exact c3)]
          rfl
      · refine ⟨s1, ?_⟩
        rw [hL, List.take_add_one, hc', List.filter_append]
        show some (HO.lst _) = some (HO.lst ((_ ++ List.filter _ [c]).map _))
        rw [List.filter_cons_of_neg (by exact c3), List.filter_nil, List.append_nil]
    rintro H1 ⟨s1, hL⟩
    rw [show x.cps.toList.take x.cps.size = TL.tl x from List.take_of_length_le (by rw [Array.length_toList]; exact Nat.le_refl _)] at hL
    have lD : (((TL.tl x).filter dig).map fun c => V.str ⟨#[c]⟩).length = ((TL.tl x).filter dig).length := List.length_map ..
    have none_ : (TL.tl x = [] ∨ ¬ (TL.tl x).all dig = true ∨ ((TL.tl x).head? = some 48 ∧ 1 < x.length)) → Q .non H1 := fun z => by
      have e : lawNum x = none := by
        unfold lawNum
        rw [if_pos z]
      rw [e] at q
      exact q _ s1
    refine ⟨_, rfl, rfl, _, rfl, ite2 (fun c1 => ?_) (fun c1 => ?_)⟩
    · have z : x = "" := by
        have := of_decide_eq_true c1
        injection this
      exact iteT (none_ (.inl (by rw [z]; decide +kernel)))
    have ne : TL.tl x ≠ [] := fun z => c1 (decide_eq_true (by rw [tl_nil.mp z]; decide +kernel))
    refine ⟨_, rfl, D, _, rfl, .inl (SqL.of hL), _, rfl, _, rfl, le200 (by omega), _, _, rfl, rfl, _, rfl, ite2 (fun c2 => ?_) (fun c2 => ?_)⟩
    · have z := of_decide_eq_true c2
      rw [lD, TL.len_tl x] at z
      exact iteT (none_ (.inr (.inl (filt_all.mp (by omega)))))
    have al : (TL.tl x).all dig = true := Decidable.of_not_not fun z => c2 (decide_eq_true (by
      rw [lD, TL.len_tl x]
      have := filt_all.mpr z
      omega))
    obtain ⟨c0, r, e0⟩ : ∃ c r, TL.tl x = c :: r := by
      cases e : TL.tl x with
      | nil => exact absurd e ne
      | cons c r => exact ⟨c, r, rfl⟩
    have fin : ¬ ((TL.tl x).head? = some 48 ∧ 1 < x.length) → Q (oV (lawNum x)) H1 ∧ PySem.intText? x = some (((NumText.digitsVal (TL.tl x) : Nat)) : Int) ∧ lawNum x = some (NumText.digitsVal (TL.tl x)) := fun z => by
      have e : lawNum x = some (NumText.digitsVal (TL.tl x)) := by
        unfold lawNum
        rw [if_neg]
        rintro (a | a | a)
        · exact ne a
        · exact a al
        · exact z a
      exact ⟨q _ s1, intText_digits (all_dig al) ne (by omega), e⟩
    refine ⟨_, rfl, x, 0, c0, rfl, rfl, le200 (by omega), atI_nat (j := 0) (by show (TL.tl x)[0]? = some c0; rw [e0]; rfl), rfl, _, rfl, ite2 (fun c3 => ?_) (fun c3 => ?_)⟩
    · have z : c0 = 48 := by
        have := of_decide_eq_true c3
        injection this with this
        have := congrArg TL.tl this
        have e48 : TL.tl ("0" : Str) = [48] := by decide +kernel
        rw [e48] at this
        have t : [c0] = [48] := this
        injection t
      refine ⟨_, rfl, _, rfl, le200 (by omega), _, _, rfl, rfl, _, rfl, ite2 (fun c4 => ?_) (fun c4 => ?_)⟩
      · have := of_decide_eq_true c4
        exact none_ (.inr (.inr ⟨by rw [e0, z]; rfl, by omega⟩))
      · have c4' : ¬ 1 < x.length := fun z => c4 (decide_eq_true (by omega))
        obtain ⟨qq, it, el⟩ := fin fun z => c4' z.2
        rw [el] at qq
        exact ⟨_, rfl, x, _, rfl, it, l6, qq⟩
    · refine iteF ?_
      obtain ⟨qq, it, el⟩ := fin fun z => by
        rw [e0] at z
        have z1 := z.1
        injection z1 with z1
        exact c3 (decide_eq_true (by rw [z1]; decide +kernel))
      rw [el] at qq
      exact ⟨_, rfl, x, _, rfl, it, l6, qq⟩
def spRead (K : PySem.W.Frag) : Sp := fun vs H Q _ => ∃ (v : V) (d : PyData), vs = [v] ∧ Dn K H v d ∧ (∀ x, d = .str x → x.length ≤ 640 ∧ (isItem (readOf (Txt.split x " ")) = true → ∀ H' t, Same H H' → Dn K H' (.ref t) (readOf (Txt.split x " ")) → Q (.ref t) H') ∧ (isItem (readOf (Txt.split x " ")) = false → ∀ H', Same H H' → Q .non H')) ∧ ((∀ x, d ≠ .str x) → Q .non H)
theorem readOf_n {ps : List Str} (h4 : ps.length ≠ 4) (h3 : ps.length ≠ 3) : readOf ps = .tuple (ps.map PyData.str) := by
  match ps, h4, h3 with
  | [], _, _ => rfl
  | [a], _, _ => rfl
  | [a, b], _, _ => rfl
  | [a, b, c], _, h => exact absurd rfl h
  | [a, b, c, d], h, _ => exact absurd rfl h
  | a :: b :: c :: d :: e :: r, _, _ => rfl
theorem ok_read {f : Addr} {fd : FuncData} (F : Fun K "_law_read" "_law_read" s_law_read f fd) (Y : Bn mg) (G_law_number : Fk P w K mg base CX0 1 "_law_number" ["_law_word_here"] spNum) (G_law_is_entry : Fk P w K mg base CX0 3 "_law_is_entry" ["_law_thing"] (spEnt K)) : FnOk P w K mg base CX0 4 f fd ["_law_thing"] (spRead K) := by
  refine F.ok sc_law_read (fun vs H Q E h => ?_) (fun cdv A outer s H vs Q E hr h => ?_)
  · obtain ⟨v, d, rfl, _⟩ := h
    rfl
  · obtain ⟨v, d, rfl, dn, q1, q2⟩ := h
    refine ⟨_, (pss_cons (ps_if (pt_not (pt_val (pe_callB call_isi (by rfl) Y.isinstance (by decide +kernel) (pa_cons (pv 0) (pa_cons (pe_bltn (v := .ty "str") (by rfl) Y.str (by decide +kernel) rfl) pa_nil)))))
 (pss_one (ps_ret pe_non))
 pss_nil)
 (pss_cons (ps_set (i := 1) sc_law_read.nd rfl (.inl rfl) (pe_split (pv 0) pe_str))
 (pss_cons (ps_set (i := 2) sc_law_read.nd rfl (.inl rfl) (pe_callTy call_tupOf (by rfl) Y.tuple (by decide +kernel) (pa_cons (pv 1) pa_nil)))
 (pss_cons (ps_if (pt_cmpR op_eq (pe_callB call_len_seq (by rfl) Y.len PySem.boot_len (pa_cons (pv 1) pa_nil)) pe_int (nomark _))
 (pss_one (ps_set (i := 2) sc_law_read.nd rfl (.inl rfl) (pe_op op_sum (pe_callTy call_tupOf (by rfl) Y.tuple (by decide +kernel) (pa_cons (pe_slice sl_list (pv 1) po_none (po_some pe_int)) pa_nil)) (pe_tupZ (pa_cons (pe_callF G_law_number (hr.mono (by decide)) (by rfl) pass0 (pa_cons (pe_ix ix_list (pv 1) pe_int (fun _ _ => rfl)) pa_nil)) pa_nil)))))
 pss_nil)
 (pss_cons (ps_if (pt_cmpR op_eq (pe_callB call_len_seq (by rfl) Y.len PySem.boot_len (pa_cons (pv 1) pa_nil)) pe_int (nomark _))
 (pss_one (ps_set (i := 2) sc_law_read.nd rfl (.inl rfl) (pe_tupZ (pa_cons (pe_ix ix_list (pv 1) pe_int (fun _ _ => rfl)) (pa_cons (pe_callTy call_tupOf (by rfl) Y.tuple (by decide +kernel) (pa_cons (pe_split (pe_ix ix_list (pv 1) pe_int (fun _ _ => rfl)) pe_str) pa_nil)) (pa_cons (pe_callF G_law_number (hr.mono (by decide)) (by rfl) pass0 (pa_cons (pe_ix ix_list (pv 1) pe_int (fun _ _ => rfl)) pa_nil)) pa_nil))))))
 pss_nil)
 (pss_one (ps_ret (pe_ifExp (pt_val (pe_callF G_law_is_entry (hr.mono (by decide)) (by rfl) pass0 (pa_cons (pv 2) pa_nil))) (pv 2) pe_non)))))))), ?_⟩
    rcases str_or dn with ⟨x, rfl, rfl⟩ | ⟨no, t, ty, kt⟩
    · obtain ⟨l6, qa, qb⟩ := q1 x rfl
      refine ⟨_, rfl, _, _, _, _, true, rfl, .ty "str", .base (.str x), kit_ty (by decide +kernel), _, rfl, iteF ?_⟩
      have sl := PyProof.Rows.split_le x " "
      have lp : ∀ p ∈ Txt.split x " ", p.length ≤ 640 := fun p hp => Nat.le_trans (part_le x hp) l6
      have sm := (sml_text l6).1
      refine ⟨_, rfl, ⟨_, rfl⟩, _, _, rfl, rfl, rfl, le200 (by omega), fun L nL => ?_⟩
      generalize hg : upd _ L _ = H1
      obtain ⟨s1, g1⟩ := (show Same H H1 ∧ H1 L = some (.lst ((Txt.split x " ").map V.str)) by rw [← hg]; exact ⟨same_upd nL, upd_same⟩)
      clear hg
      generalize Txt.split x " " = ps at qa qb sl lp sm g1
      refine ⟨_, rfl, L, _, rfl, SqL.of g1, (by rw [List.length_map]; omega), fun p0 o0 np0 sp0 tp0 => ?_⟩
      generalize upd _ p0 o0 = H2 at sp0 tp0 ⊢
      have s02 := s1.trans sp0
      have g2 := sp0 _ _ g1
      have fin : ∀ (H3 : Hp) (t : Addr), Same H H3 → Dn K H3 (.ref t) (readOf ps) → ∃ v d, [V.ref t] = [v] ∧ Dn K H3 v d ∧ sml d = true ∧ ∀ H', Same H3 H' → (if isItem d = true then Q (.ref t) H' else Q .non H') := fun H3 t s3 dt =>
        ⟨_, _, rfl, dt, sm, fun H4 s4 => by
          by_cases c : isItem (readOf ps) = true
          · rw [if_pos c]
            exact qa c _ t (s3.trans s4) (dt.same s4)
          · rw [if_neg c]
            exact qb (Bool.eq_false_iff.mpr c) _ (s3.trans s4)⟩
      refine ⟨_, rfl, L, _, rfl, .inl (SqL.of g2), rfl, _, rfl, ite2 (fun c => ?_) (fun c => ?_)⟩
      · have c' : ps.length = 4 := by
          have z := of_decide_eq_true c
          injection z with z
          rw [List.length_map] at z
          omega
        obtain ⟨k, w', y, b, rfl⟩ : ∃ a b c d, ps = [a, b, c, d] := by
          match ps, c' with
          | [a, b, c, d], _ => exact ⟨a, b, c, d, rfl⟩
        refine ⟨_, rfl, 3, rfl, L, _, rfl, SqL.of g2, fun M nM => ?_⟩
        generalize hg : upd _ M _ = H3
        obtain ⟨s3, g3⟩ := (show Same H2 H3 ∧ H3 M = some (.lst [.str k, .str w', .str y]) by rw [← hg]; exact ⟨same_upd nM, upd_same⟩)
        clear hg
        refine ⟨M, _, rfl, SqL.of g3, (by show 3 ≤ 1000; decide), fun p4 o4 np4 sp4 tp4 => ?_⟩
        generalize upd _ p4 o4 = H4 at sp4 tp4 ⊢
        have g4 := sp4 _ _ (s3 _ _ g2)
        refine ⟨_, rfl, L, _, 3, .str b, rfl, rfl, SqL.of g4, atI_nat (j := 3) rfl, b, rfl, lp b (by simp), fun H5 s5 => ?_⟩
        refine ⟨(by show 1 ≤ sizeLine; decide), fun p6 o6 np6 sp6 tp6 => ?_⟩
        generalize upd _ p6 o6 = H6 at sp6 tp6 ⊢
        refine ⟨p4, p6, _, _, rfl, rfl, (tp4.same s5).same sp6, tp6, (by show 3 + 1 ≤ sizeLine; decide), fun z => (nomatch z), fun z => (nomatch z), fun p7 o7 np7 sp7 tp7 => ?_⟩
        generalize upd _ p7 o7 = H7 at sp7 tp7 ⊢
        have s07 := s02.trans (s3.trans (sp4.trans (s5.trans (sp6.trans sp7))))
        have g7 := sp7 _ _ (sp6 _ _ (s5 _ _ g4))
        refine ⟨_, rfl, L, _, rfl, .inl (SqL.of g7), rfl, _, rfl, ?_⟩
        rw [decide_eq_false (show ¬ V.int (([k, w', y, b].map V.str).length : Int) = V.int 3 from fun z => by injection z with z; cases z)]
        refine iteF ?_
        obtain ⟨v', d', e1, e2, e3, e4⟩ := fin H7 p7 s07 (.tup tp7 (.cons (.str _) (.cons (.str _) (.cons (.str _) (.cons (dn_o _) .nil)))))
        refine ⟨_, rfl, v', d', e1, e2, e3, fun H' s' => ⟨_, rfl, ?_⟩⟩
        have e5 := e4 H' s'
        by_cases ci : isItem d' = true
        · rw [if_pos ci] at e5
          rw [ci]
          exact iteT ⟨_, rfl, e5⟩
        · rw [if_neg ci] at e5
          rw [Bool.eq_false_iff.mpr ci]
          exact iteF e5
      have c4 : ps.length ≠ 4 := fun z => c (decide_eq_true (by rw [List.length_map, z]; rfl))
      refine ⟨_, rfl, L, _, rfl, .inl (SqL.of g2), rfl, _, rfl, ite2 (fun c => ?_) (fun c => ?_)⟩
      · have c' : ps.length = 3 := by
          have z := of_decide_eq_true c
          injection z with z
          rw [List.length_map] at z
          omega
        obtain ⟨k, p, y, rfl⟩ : ∃ a b c, ps = [a, b, c] := by
          match ps, c' with
          | [a, b, c], _ => exact ⟨a, b, c, rfl⟩
        have sl2 := PyProof.Rows.split_le p ","
        have lp1 := lp p (by simp)
        refine ⟨_, rfl, L, _, 0, .str k, rfl, rfl, SqL.of g2, atI_nat (j := 0) rfl, ?_⟩
        refine ⟨_, rfl, L, _, 1, .str p, rfl, rfl, SqL.of g2, atI_nat (j := 1) rfl, ⟨_, rfl⟩, _, _, rfl, rfl, rfl, le200 (by omega), fun M nM => ?_⟩
        generalize hg : upd _ M _ = H3
        obtain ⟨s3, g3⟩ := (show Same H2 H3 ∧ H3 M = some (.lst ((Txt.split p ",").map V.str)) by rw [← hg]; exact ⟨same_upd nM, upd_same⟩)
        clear hg
        refine ⟨M, _, rfl, SqL.of g3, (by rw [List.length_map]; omega), fun p4 o4 np4 sp4 tp4 => ?_⟩
        generalize upd _ p4 o4 = H4 at sp4 tp4 ⊢
        have g4 := sp4 _ _ (s3 _ _ g2)
        refine ⟨_, rfl, L, _, 2, .str y, rfl, rfl, SqL.of g4, atI_nat (j := 2) rfl, y, rfl, lp y (by simp), fun H5 s5 => ?_⟩
        refine ⟨(by show 3 ≤ sizeLine; decide), fun p7 o7 np7 sp7 tp7 => ?_⟩
        generalize upd _ p7 o7 = H7 at sp7 tp7 ⊢
        have s07 := s02.trans (s3.trans (sp4.trans (s5.trans sp7)))
        obtain ⟨v', d', e1, e2, e3, e4⟩ := fin H7 p7 s07 (.tup tp7 (.cons (.str _) (.cons (.tup ((tp4.same s5).same sp7) (dns_strs _)) (.cons (dn_o _) .nil))))
        refine ⟨_, rfl, v', d', e1, e2, e3, fun H' s' => ⟨_, rfl, ?_⟩⟩
        have e5 := e4 H' s'
        by_cases ci : isItem d' = true
        · rw [if_pos ci] at e5
          rw [ci]
          exact iteT ⟨_, rfl, e5⟩
        · rw [if_neg ci] at e5
          rw [Bool.eq_false_iff.mpr ci]
          exact iteF e5
      have c3 : ps.length ≠ 3 := fun z => c (decide_eq_true (by rw [List.length_map, z]; rfl))
      rw [readOf_n c4 c3] at fin
      obtain ⟨v', d', e1, e2, e3, e4⟩ := fin H2 p0 s02 (.tup tp0 (dns_strs _))
      refine ⟨_, rfl, v', d', e1, e2, e3, fun H' s' => ⟨_, rfl, ?_⟩⟩
      have e5 := e4 H' s'
      by_cases ci : isItem d' = true
      · rw [if_pos ci] at e5
        rw [ci]
        exact iteT ⟨_, rfl, e5⟩
      · rw [if_neg ci] at e5
        rw [Bool.eq_false_iff.mpr ci]
        exact iteF e5
    · refine ⟨v, rfl, v, _, _, _, false, rfl, .ty "str", ty, kit_ty kt, _, rfl, iteT ?_⟩
      exact q2 no
end
end My

namespace My
open PySem PySem.Spec PyProof.Rows L2 Gy Xl Xs Xt
theorem cut_take (xs : List V) (n : Nat) : cutV xs none (some (n : Int)) = xs.take n := by
  unfold cutV
  rw [HT.sIx_none, HT.sIx_nat, List.drop_zero, Nat.sub_zero]
  by_cases h : n ≤ xs.length
  · rw [Nat.min_eq_left h]
  · rw [Nat.min_eq_right (by omega), List.take_of_length_le (Nat.le_refl _), List.take_of_length_le (by omega)]
theorem cut_drop (xs : List V) (n : Nat) : cutV xs (some (n : Int)) none = xs.drop n := by
  unfold cutV
  rw [HT.sIx_none, HT.sIx_nat]
  by_cases h : n ≤ xs.length
  · rw [Nat.min_eq_left h, List.take_of_length_le (by rw [List.length_drop]; exact Nat.le_refl _)]
  · rw [Nat.min_eq_right (by omega), Nat.sub_self, List.take_zero, List.drop_eq_nil_of_le (by omega)]
theorem cut_dropI (xs : List V) (n : Nat) : cutV xs (some ((n : Int) + 1)) none = xs.drop (n + 1) := cut_drop xs (n + 1)
theorem ixN_nat {n j : Nat} (hj : j < n) : ixN n (j : Int) = some j := by
  unfold ixN
  rw [if_pos (by omega), if_pos (by omega), Int.toNat_natCast]
def Okt (x : Str) : Prop := ∀ c ∈ TL.tl x, c < 0x110000
theorem Okt.app {x y : Str} (a : Okt x) (b : Okt y) : Okt (x ++ y) := fun c hc => by
  rw [TL.tl_append, List.mem_append] at hc
  rcases hc with hc | hc
  · exact a c hc
  · exact b c hc
theorem Okt.cut {x : Str} (a : Okt x) (lo hi : Option Int) : Okt (cutS x lo hi) := fun c hc => by
  unfold cutS at hc
  exact a c (List.mem_of_mem_drop (List.mem_of_mem_take (show c ∈ (((x.cps.toList.drop _).take _)) from hc)))
theorem cutT_len (x : Str) {i : Int} (h : 0 ≤ i) : (cutS x none (some i)).length ≤ i.toNat ∧ (cutS x none (some i)).length ≤ x.length := by
  refine ⟨?_, cutS_length x _ _⟩
  obtain ⟨n, rfl⟩ := Int.eq_ofNat_of_zero_le h
  rw [cut_some]
  show ((x.cps.toList.take (min n x.length)).toArray).size ≤ n
  rw [List.size_toArray, List.length_take]
  omega
theorem cutF_len (x : Str) {i : Int} (h : 0 ≤ i) : (cutS x (some i) none).length = x.length - i.toNat := by
  obtain ⟨n, rfl⟩ := Int.eq_ofNat_of_zero_le h
  unfold cutS
  rw [HT.sIx_nat, HT.sIx_none]
  show (((x.cps.toList.drop (min n x.length)).take (x.length - min n x.length)).toArray).size = _
  rw [List.size_toArray, List.length_take, List.length_drop, Array.length_toList]
  have : x.cps.size = x.length := rfl
  omega
theorem sign_ok {c : Nat} (h : c < 0x110000) : Okt ⟨#[c]⟩ := fun d hd => by
  have : d = c := List.mem_singleton.mp (show d ∈ [c] from hd)
  rw [this]
  exact h
section
variable {P : Program} {w : World} {K : PySem.W.Frag} {mg : Str → Option Value} {base : Heap} {H : Hp}
def spPut : Sp := fun vs H Q _ => ∃ (r : Addr) (x : Str), vs = [.ref r, .str x] ∧ Rng H r ∧ x.length ≤ 640 ∧ Okt x ∧ ∀ H' y, But r H H' → Rng H' r → y.length ≤ x.length + 1 → Okt y → Q (.str y) H'
theorem ok_put {f : Addr} {fd : FuncData} (F : Fun K "_law_put" "_law_put" s_law_put f fd) (Y : Bn mg) (G_law_draw : Fk P w K mg base CX0 1 "_law_draw" ["_law_pot_here", "_law_many"] spDraw) : FnOk P w K mg base CX0 2 f fd ["_law_pot_here", "_law_written"] spPut := by
  refine F.ok sc_law_put (fun vs H Q E h => ?_) (fun cdv A outer s H vs Q E hr h => ?_)
  · obtain ⟨r, x, rfl, _⟩ := h
    rfl
  · obtain ⟨r, x, rfl, R, l6, ox, q⟩ := h
    refine ⟨_, (pss_cons (ps_par (i := 2) (j := 3) (by rfl) sc_law_put.nd rfl rfl (by decide) rfl rfl (pa_cons (pe_callF G_law_draw (hr.mono (by decide)) (by rfl) pass0 (pa_cons (pv 0) (pa_cons (pe_op op_add (pe_callB call_len_str (by rfl) Y.len PySem.boot_len (pa_cons (pv 1) pa_nil)) pe_int) pa_nil))) (pa_cons (pe_callF G_law_draw (hr.mono (by decide)) (by rfl) pass0 (pa_cons (pv 0) (pa_cons pe_int pa_nil))) pa_nil)) (by rfl))
 (pss_cons (ps_set (i := 4) sc_law_put.nd rfl (.inl rfl) (pe_ix ix_str pe_str (pe_callF G_law_draw (hr.mono (by decide)) (by rfl) pass0 (pa_cons (pv 0) (pa_cons pe_int pa_nil))) (fun _ _ => rfl)))
 (pss_cons (ps_if (pt_cmpR op_eq (pv 3) pe_int (nomark _))
 (pss_one (ps_ret (pe_op op_add_str (pe_op op_add_str (pe_slice sl_str (pv 1) po_none (po_some (pv 2))) (pv 4)) (pe_slice sl_str (pv 1) (po_some (pv 2)) po_none))))
 pss_nil)
 (pss_one (ps_ret (pe_op op_add_str (pe_op op_add_str (pe_slice sl_str (pv 1) po_none (po_some (pv 2))) (pe_ix ix_list (pe_lst (pa_cons pe_str (pa_cons (pv 4) pa_nil))) (pe_op op_sub (pv 3) pe_int) (fun _ _ => rfl))) (pe_slice sl_str (pv 1) (po_some (pe_op op_add (pv 2) pe_int)) po_none))))))), ?_⟩
    refine ⟨_, rfl, _, rfl, _, rfl, le200 (by omega), _, 1, rfl, rfl, r, _, rfl, R, by omega, by omega, fun H1 d1 b1 R1 d10 d11 => ?_⟩
    refine ⟨_, rfl, r, 3, rfl, R1, by decide, by decide, fun H2 d2 b2 R2 d20 d21 => ?_⟩
    refine ⟨_, _, rfl, ?_⟩
    refine ⟨_, rfl, r, 17, rfl, R2, by decide, by decide, fun H3 d3 b3 R3 d30 d31 => ?_⟩
    have b03 := b1.trans (b2.trans b3)
    have sg : (" ,abzAZ0129-+_.\n:" : Str).cps.toList.length = 17 ∧ ∀ c ∈ (" ,abzAZ0129-+_.\n:" : Str).cps.toList, c < 0x110000 := by decide +kernel
    obtain ⟨c, hc, mc⟩ := at_in (xs := (" ,abzAZ0129-+_.\n:" : Str).cps.toList) d30 (by rw [sg.1]; exact d31)
    have oc := sign_ok (sg.2 c mc)
    refine ⟨_, _, c, rfl, rfl, (by decide), hc, ?_⟩
    have ct := cutT_len x d10
    have cf := cutF_len x d10
    have cf1 := cutF_len x (i := d1 + 1) (by omega)
    have l1 : (⟨#[c]⟩ : Str).length = 1 := rfl
    refine ⟨_, rfl, rfl, _, rfl, ite2 (fun c1 => ?_) (fun c1 => ?_)⟩
    · refine ⟨_, rfl, _, rfl, _, rfl, x, rfl, le200 (by omega), _, rfl, _, _, rfl, rfl, le200 (by omega), _, rfl, _, rfl, _, rfl, x, rfl, le200 (by omega), _, _, rfl, rfl, (by rw [len_app]; exact le200 (by omega)), ?_⟩
      exact q _ _ b03 R3 (by rw [len_app, len_app]; omega) (((ox.cut _ _).app oc).app (ox.cut _ _))
    · have n0 : d2 ≠ 0 := fun z => c1 (decide_eq_true (by rw [z]))
      refine ⟨_, rfl, _, rfl, _, rfl, x, rfl, le200 (by omega), _, rfl, (by show 2 ≤ sizeLine; decide), fun l n => ?_⟩
      generalize hg : upd _ l _ = H4
      obtain ⟨s4, g4⟩ := upd_new hg n
      clear hg
      obtain ⟨v, hv, mv⟩ := at_in (xs := [V.str "", V.str ⟨#[c]⟩]) (d := d2 - 1) (by omega) (by show d2 - 1 < 2; omega)
      obtain ⟨z, rfl, lz, oz⟩ : ∃ z : Str, v = .str z ∧ z.length ≤ 1 ∧ Okt z := by
        simp only [List.mem_cons, List.not_mem_nil, or_false] at mv
        rcases mv with rfl | rfl
        · exact ⟨_, rfl, by decide, fun c hc => nomatch (show c ∈ ([] : List Nat) from hc)⟩
        · exact ⟨_, rfl, Nat.le_refl 1, oc⟩
      refine ⟨_, rfl, _, _, rfl, rfl, l, _, _, _, rfl, rfl, SqL.of g4, hv, ?_⟩
      refine ⟨_, _, rfl, rfl, le200 (by omega), _, rfl, _, rfl, _, _, rfl, rfl, _, rfl, x, rfl, le200 (by omega), _, _, rfl, rfl, (by rw [len_app]; exact le200 (by omega)), ?_⟩
      exact q _ _ (b03.trans (But.of s4)) (R3.same s4) (by rw [len_app, len_app]; omega) (((ox.cut _ _).app oz).app (ox.cut _ _))
def MENU : List Str := ["message", "ask", "no", "yes", "go", "back", "bye", "", "0", "1", "2", "00", "01", "-1", "a", "a,b", "a,b,c"]
theorem menu_ok : ∀ w ∈ MENU, 32 ∉ TL.tl w ∧ w.length ≤ 7 ∧ ∀ c ∈ TL.tl w, c < 0x110000 := by decide +kernel
theorem tot_eq : ∀ ws : List Str, (ws.map (·.length)).sum + ws.length = tot ws
  | [] => rfl
  | w :: ws => by
    have := tot_eq ws
    show w.length + (ws.map (·.length)).sum + (ws.length + 1) = w.length + 1 + tot ws
    omega
def spWC : Sp := fun vs H Q _ => ∃ (r : Addr) (x : Str) (W : Nat), vs = [.ref r, .str x] ∧ Rng H r ∧ x.length ≤ 640 ∧ Okt x ∧ 7 ≤ W ∧ W ≤ 640 ∧ (∀ p ∈ Txt.split x " ", p.length ≤ W) ∧
  ∀ H' y, But r H H' → Rng H' r → y.length ≤ x.length + W + 1 → Okt y → (∀ p ∈ Txt.split y " ", p.length ≤ W) → Q (.str y) H'
theorem ok_wc {f : Addr} {fd : FuncData} (F : Fun K "_law_words_changed" "_law_words_changed" s_law_words_changed f fd) (Y : Bn mg) (G_law_draw : Fk P w K mg base CX0 1 "_law_draw" ["_law_pot_here", "_law_many"] spDraw) : FnOk P w K mg base CX0 2 f fd ["_law_pot_here", "_law_written"] spWC := by
  refine F.ok sc_law_words_changed (fun vs H Q E h => ?_) (fun cdv A outer s H vs Q E hr h => ?_)
  · obtain ⟨r, x, W, rfl, _⟩ := h
    rfl
  · obtain ⟨r, x, W, rfl, R, l6, ox, w7, w6, lw, q⟩ := h
    refine ⟨_, (pss_cons (ps_set (i := 2) sc_law_words_changed.nd rfl (.inl rfl) (pe_split (pv 1) pe_str))
 (pss_cons (ps_par3 (i := 3) (j := 4) (l := 5) (by rfl) sc_law_words_changed.nd rfl rfl rfl (by decide) (by decide) (by decide) rfl rfl rfl (pa_cons (pe_callF G_law_draw (hr.mono (by decide)) (by rfl) pass0 (pa_cons (pv 0) (pa_cons (pe_callB call_len_seq (by rfl) Y.len PySem.boot_len (pa_cons (pv 2) pa_nil)) pa_nil))) (pa_cons (pe_callF G_law_draw (hr.mono (by decide)) (by rfl) pass0 (pa_cons (pv 0) (pa_cons (pe_callB call_len_seq (by rfl) Y.len PySem.boot_len (pa_cons (pv 2) pa_nil)) pa_nil))) (pa_cons (pe_callF G_law_draw (hr.mono (by decide)) (by rfl) pass0 (pa_cons (pv 0) (pa_cons pe_int pa_nil))) pa_nil))) (by rfl))
 (pss_cons (ps_set (i := 6) sc_law_words_changed.nd rfl (.inl rfl) (pe_lst (pa_cons pe_str (pa_cons pe_str (pa_cons pe_str (pa_cons pe_str (pa_cons pe_str (pa_cons pe_str (pa_cons pe_str (pa_cons pe_str (pa_cons pe_str (pa_cons pe_str (pa_cons pe_str (pa_cons pe_str (pa_cons pe_str (pa_cons pe_str pa_nil))))))))))))))))
 (pss_cons (ps_set (i := 6) sc_law_words_changed.nd rfl (.inl rfl) (pe_op op_cat (pv 6) (pe_lst (pa_cons pe_str (pa_cons pe_str (pa_cons pe_str pa_nil))))))
 (pss_cons (ps_if (pt_cmpR op_eq (pv 5) pe_int (nomark _))
 (pss_one (ps_set (i := 2) sc_law_words_changed.nd rfl (.inl rfl) (pe_op op_cat (pe_slice sl_list (pv 2) po_none (po_some (pv 3))) (pe_slice sl_list (pv 2) (po_some (pe_op op_add (pv 3) pe_int)) po_none))))
 (pss_one (ps_if (pt_cmpR op_eq (pv 5) pe_int (nomark _))
 (pss_one (ps_set (i := 2) sc_law_words_changed.nd rfl (.inl rfl) (pe_op op_cat (pe_op op_cat (pe_slice sl_list (pv 2) po_none (po_some (pv 3))) (pe_lst (pa_cons (pe_ix ix_list (pv 2) (pv 4) (fun _ _ => rfl)) pa_nil))) (pe_slice sl_list (pv 2) (po_some (pv 3)) po_none))))
 (pss_one (ps_if (pt_cmpR op_eq (pv 5) pe_int (nomark _))
 (pss_one (ps_asg (pe_tupZ (pa_cons (pe_ix ix_list (pv 2) (pv 4) (fun _ _ => rfl)) (pa_cons (pe_ix ix_list (pv 2) (pv 3) (fun _ _ => rfl)) pa_nil))) (pg_tup (by rfl) (pgs_cons (pg_sub (pv 2) (pv 3) set_list) (pgs_cons (pg_sub (pv 2) (pv 4) set_list) pgs_nil)))))
 (pss_one (ps_set (i := 2) sc_law_words_changed.nd rfl (.inl rfl) (pe_op op_cat (pe_op op_cat (pe_slice sl_list (pv 2) po_none (po_some (pv 3))) (pe_lst (pa_cons (pe_ix ix_list (pv 6) (pe_callF G_law_draw (hr.mono (by decide)) (by rfl) pass0 (pa_cons (pv 0) (pa_cons pe_int pa_nil))) (fun _ _ => rfl)) pa_nil))) (pe_slice sl_list (pv 2) (po_some (pe_op op_add (pv 3) pe_int)) po_none)))))))))
 (pss_one (ps_ret (pe_join pe_str (pv 2))))))))), ?_⟩
    have sl := PyProof.Rows.split_le x " "
    have ne := split_ne x
    have tp := split_tot x
    have ok : ∀ p ∈ Txt.split x " ", 32 ∉ TL.tl p ∧ p.length ≤ W ∧ Okt p := fun p hp => ⟨split_free hp, lw p hp, fun c hc => ox c (part_sub hp c hc)⟩
    refine ⟨_, rfl, ⟨_, rfl⟩, _, _, rfl, rfl, rfl, le200 (by omega), fun L nL => ?_⟩
    have neL := R.ne nL
    generalize hg : upd _ L _ = H1
    obtain ⟨s1, g1⟩ := (show Same H H1 ∧ H1 L = some (.lst ((Txt.split x " ").map V.str)) by rw [← hg]; exact ⟨same_upd nL, upd_same⟩)
    clear hg
    generalize Txt.split x " " = ps at sl ne tp ok g1
    have pl : 0 < ps.length := List.length_pos_iff.mpr ne
    have R := R.same s1
    have b0 := But.of (r := r) s1
    refine ⟨_, rfl, _, rfl, L, _, rfl, .inl (SqL.of g1), r, _, rfl, R, by rw [List.length_map]; omega, by rw [List.length_map]; omega, fun H2 d1 b2 R2 d10 d11 => ?_⟩
    have g2 := b2 _ _ neL g1
    refine ⟨_, rfl, _, rfl, L, _, rfl, .inl (SqL.of g2), r, _, rfl, R2, by rw [List.length_map]; omega, by rw [List.length_map]; omega, fun H3 d2 b3 R3 d20 d21 => ?_⟩
    have g3 := b3 _ _ neL g2
    refine ⟨_, rfl, r, 4, rfl, R3, by decide, by decide, fun H4 d3 b4 R4 d30 d31 => ?_⟩
    have g4 := b4 _ _ neL g3
    rw [List.length_map] at d11 d21
    obtain ⟨i, rfl⟩ := Int.eq_ofNat_of_zero_le d10
    obtain ⟨j, rfl⟩ := Int.eq_ofNat_of_zero_le d20
    have hi : i < ps.length := by omega
    have hj : j < ps.length := by omega
    refine ⟨_, _, _, rfl, ?_⟩
    refine ⟨(by show 14 ≤ sizeLine; decide), fun m1 nm1 => ?_⟩
    generalize hg : upd _ m1 _ = H5
    obtain ⟨s5, g5⟩ := upd_new hg nm1
    clear hg
    refine ⟨_, rfl, (by show 3 ≤ sizeLine; decide), fun m2 nm2 => ?_⟩
    generalize hg : upd _ m2 _ = H6
    obtain ⟨s6, g6⟩ := upd_new hg nm2
    clear hg
    refine ⟨m1, m2, _, _, rfl, rfl, s6 _ _ g5, g6, (by show 14 + 3 ≤ sizeLine; decide), fun m3 nm3 => ?_⟩
    generalize hg : upd _ m3 _ = H7
    obtain ⟨s7, g7'⟩ := upd_new hg nm3
    clear hg
    have g7 : H7 m3 = some (.lst (MENU.map V.str)) := g7'
    have s47 := s5.trans (s6.trans s7)
    have gL := s47 _ _ g4
    have R7 := R4.same s47
    have b07 := b0.trans (b2.trans (b3.trans (b4.trans (But.of s47))))
    have nem3 := (R4.same (s5.trans s6)).ne nm3
    clear b0 b2 b3 b4 s5 s6 s7 R R2 R3 g1 g2 g3 g5 g6 g7'
    have fin : ∀ (H' : Hp) (ws : List Str), But r H H' → Rng H' r → tot ws ≤ x.length + W + 2 → (∀ p ∈ ws, 32 ∉ TL.tl p ∧ p.length ≤ W ∧ Okt p) → (ws.map (·.length)).sum + ws.length * (" " : Str).length ≤ 16777216 ∧ Q (.str (Txt.join " " ws)) H' := fun H' ws bb RR tw hw => by
      have te := tot_eq ws
      refine ⟨?_, q _ _ bb RR ?_ ?_ ?_⟩
      · have y : ((" ": Str)).length = 1 := rfl
        rw [y]
        omega
      · by_cases z : ws = []
        · subst z
          exact Nat.zero_le _
        · have := join_tot ws z
          omega
      · exact join_all (by decide +kernel) fun p hp => (hw p hp).2.2
      · by_cases z : ws = []
        · subst z
          intro p hp
          have := part_le _ hp
          have l0 : (Txt.join " " ([] : List Str)).length = 0 := rfl
          omega
        · rw [split_sp z fun p hp => (hw p hp).1]
          exact fun p hp => (hw p hp).2.1
    have tk : ∀ n, ∀ p ∈ ps.take n, 32 ∉ TL.tl p ∧ p.length ≤ W ∧ Okt p := fun n p hp => ok p (List.mem_of_mem_take hp)
    have dr : ∀ n, ∀ p ∈ ps.drop n, 32 ∉ TL.tl p ∧ p.length ≤ W ∧ Okt p := fun n p hp => ok p (List.mem_of_mem_drop hp)
    have td := tot_take_drop ps i
    have tdl := tot_drop_le ps i
    have eT : cutV (ps.map V.str) none (some (i : Int)) = (ps.take i).map V.str := by rw [cut_take, List.map_take]
    have eD : cutV (ps.map V.str) (some (i : Int)) none = (ps.drop i).map V.str := by rw [cut_drop, List.map_drop]
    have eD1 : cutV (ps.map V.str) (some ((i : Int) + 1)) none = (ps.drop (i + 1)).map V.str := by rw [cut_dropI, List.map_drop]
    refine ⟨_, rfl, rfl, _, rfl, ite2 (fun c1 => ?_) (fun c1 => ?_)⟩
    · refine ⟨_, rfl, _, rfl, _, rfl, L, _, rfl, SqL.of gL, fun a1 n1 => ?_⟩
      generalize hg : upd _ a1 _ = HA
      obtain ⟨sA, gA⟩ := upd_new hg n1
      clear hg
      rw [eT] at gA
      refine ⟨_, rfl, _, rfl, _, _, rfl, rfl, _, rfl, L, _, rfl, SqL.of (sA _ _ gL), fun a2 n2 => ?_⟩
      generalize hg : upd _ a2 _ = HB
      obtain ⟨sB, gB⟩ := upd_new hg n2
      clear hg
      rw [eD1] at gB
      refine ⟨a1, a2, _, _, rfl, rfl, sB _ _ gA, gB, ?_, fun a3 n3 => ?_⟩
      · rw [List.length_map, List.length_map, List.length_take, List.length_drop]
        exact le200 (by omega)
      generalize hg : upd _ a3 _ = HC
      obtain ⟨sC, gC⟩ := upd_new hg n3
      clear hg
      rw [← List.map_append] at gC
      have sAC := sA.trans (sB.trans sC)
      have f := fin HC (ps.take i ++ ps.drop (i + 1)) (b07.trans (But.of sAC)) (R7.same sAC) (by rw [tot_app]; omega) (fun p hp => (List.mem_append.mp hp).elim (tk i p) (dr (i + 1) p))
      exact ⟨⟨_, rfl⟩, _, rfl, _, a3, _, rfl, rfl, .inl (SqL.of gC), f.1, f.2⟩
    refine ⟨_, rfl, rfl, _, rfl, ite2 (fun c2 => ?_) (fun c2 => ?_)⟩
    · refine ⟨_, rfl, _, rfl, _, rfl, L, _, rfl, SqL.of gL, fun a1 n1 => ?_⟩
      generalize hg : upd _ a1 _ = HA
      obtain ⟨sA, gA⟩ := upd_new hg n1
      clear hg
      rw [eT] at gA
      refine ⟨_, rfl, _, rfl, L, _, _, .str ps[j], rfl, rfl, SqL.of (sA _ _ gL), atI_nat (j := j) (by rw [List.getElem?_map, List.getElem?_eq_getElem hj]; rfl), (by show 1 ≤ sizeLine; decide), fun a2 n2 => ?_⟩
      generalize hg : upd _ a2 _ = HB
      obtain ⟨sB, gB⟩ := upd_new hg n2
      clear hg
      refine ⟨a1, a2, _, _, rfl, rfl, sB _ _ gA, gB, ?_, fun a3 n3 => ?_⟩
      · rw [List.length_map, List.length_take]
        exact le200 (by show _ + 1 ≤ _; omega)
      generalize hg : upd _ a3 _ = HC
      obtain ⟨sC, gC⟩ := upd_new hg n3
      clear hg
      have sAC := sA.trans (sB.trans sC)
      refine ⟨_, rfl, _, rfl, _, rfl, L, _, rfl, SqL.of (sAC _ _ gL), fun a4 n4 => ?_⟩
      generalize hg : upd _ a4 _ = HD
      obtain ⟨sD, gD⟩ := upd_new hg n4
      clear hg
      rw [eD] at gD
      refine ⟨a3, a4, _, _, rfl, rfl, sD _ _ gC, gD, ?_, fun a5 n5 => ?_⟩
      · rw [List.length_append, List.length_map, List.length_map, List.length_take, List.length_drop]
        exact le200 (by show _ + 1 + _ ≤ _; omega)
      generalize hg : upd _ a5 _ = HE
      obtain ⟨sE, gE⟩ := upd_new hg n5
      clear hg
      have gE' : HE a5 = some (.lst ((ps.take i ++ [ps[j]] ++ ps.drop i).map V.str)) := by
        rw [gE, List.map_append, List.map_append]
        rfl
      have sAE := sAC.trans (sD.trans sE)
      have lj := (ok ps[j] (List.getElem_mem hj)).2.1
      have f := fin HE (ps.take i ++ [ps[j]] ++ ps.drop i) (b07.trans (But.of sAE)) (R7.same sAE) (by rw [tot_app, tot_app, tot_one]; omega) (fun p hp => by
        rcases List.mem_append.mp hp with hp | hp
        · rcases List.mem_append.mp hp with hp | hp
          · exact tk i p hp
          · rw [List.mem_singleton.mp hp]
            exact ok _ (List.getElem_mem hj)
        · exact dr i p hp)
      exact ⟨⟨_, rfl⟩, _, rfl, _, a5, _, rfl, rfl, .inl (SqL.of gE'), f.1, f.2⟩
    refine ⟨_, rfl, rfl, _, rfl, ite2 (fun c3 => ?_) (fun c3 => ?_)⟩
    · refine ⟨_, rfl, _, rfl, L, _, _, .str ps[j], rfl, rfl, SqL.of gL, atI_nat (j := j) (by rw [List.getElem?_map, List.getElem?_eq_getElem hj]; rfl), ?_⟩
      refine ⟨_, rfl, _, rfl, L, _, _, .str ps[i], rfl, rfl, SqL.of gL, atI_nat (j := i) (by rw [List.getElem?_map, List.getElem?_eq_getElem hi]; rfl), (by show 2 ≤ sizeLine; decide), fun t o nt st tt => ?_⟩
      have nLt : L ≠ t := ne_of_none gL nt
      generalize upd _ t o = HA at st tt ⊢
      have gA := st _ _ gL
      refine ⟨t, _, rfl, tt.sq, rfl, _, _, rfl, ?_⟩
      refine ⟨_, rfl, _, rfl, L, _, _, i, rfl, rfl, gA, ?_, ?_⟩
      · exact ixN_nat (by rw [List.length_map]; exact hi)
      refine ⟨_, _, rfl, ?_⟩
      refine ⟨_, rfl, _, rfl, L, _, _, j, rfl, rfl, upd_same, ?_, rfl, ?_⟩
      · exact ixN_nat (by rw [List.length_set, List.length_map]; exact hj)
      have hc : upd (upd HA L (.lst ((ps.map V.str).set i (.str ps[j])))) L (.lst (((ps.map V.str).set i (.str ps[j])).set j (.str ps[i]))) L = some (.lst (((ps.set i ps[j]).set j ps[i]).map V.str)) := by
        rw [upd_same, ← List.map_set, ← List.map_set]
      have f := fin _ ((ps.set i ps[j]).set j ps[i]) (show But r H (upd (upd HA L (.lst ((ps.map V.str).set i (.str ps[j])))) L (.lst (((ps.map V.str).set i (.str ps[j])).set j (.str ps[i])))) from (b07.trans (But.of st)).upd nL |>.upd nL) (((R7.same st).upd2 neL).upd2 neL) (by
        rw [tot_swap ps i j ps[j] ps[i] (List.getElem?_eq_getElem hi) (List.getElem?_eq_getElem hj)]
        omega) (fun p hp => by
        rcases List.mem_or_eq_of_mem_set hp with hp | rfl
        · rcases List.mem_or_eq_of_mem_set hp with hp | rfl
          · exact ok p hp
          · exact ok _ (List.getElem_mem hj)
        · exact ok _ (List.getElem_mem hi))
      exact ⟨⟨_, rfl⟩, _, rfl, _, L, _, rfl, rfl, .inl (SqL.of hc), f.1, f.2⟩
    · refine ⟨_, rfl, _, rfl, _, rfl, L, _, rfl, SqL.of gL, fun a1 n1 => ?_⟩
      have neA1 := R7.ne n1
      generalize hg : upd _ a1 _ = HA
      obtain ⟨sA, gA⟩ := upd_new hg n1
      clear hg
      rw [eT] at gA
      refine ⟨_, rfl, _, rfl, r, 17, rfl, R7.same sA, by decide, by decide, fun HB d b8 R8 d0 d17 => ?_⟩
      obtain ⟨v, hv, mv⟩ := at_in (xs := MENU.map V.str) d0 (by rw [List.length_map]; exact d17)
      obtain ⟨w0, mw, rfl⟩ := List.mem_map.mp mv
      refine ⟨m3, _, _, _, rfl, rfl, SqL.of (b8 _ _ nem3 (sA _ _ g7)), hv, (by show 1 ≤ sizeLine; decide), fun a2 n2 => ?_⟩
      generalize hg : upd _ a2 _ = HC
      obtain ⟨sC, gC⟩ := upd_new hg n2
      clear hg
      have gA2 := sC _ _ (b8 _ _ neA1 gA)
      have gL2 := sC _ _ (b8 _ _ neL (sA _ _ gL))
      refine ⟨a1, a2, _, _, rfl, rfl, gA2, gC, ?_, fun a3 n3 => ?_⟩
      · rw [List.length_map, List.length_take]
        exact le200 (by show _ + 1 ≤ _; omega)
      generalize hg : upd _ a3 _ = HD
      obtain ⟨sD, gD⟩ := upd_new hg n3
      clear hg
      refine ⟨_, rfl, _, rfl, _, _, rfl, rfl, _, rfl, L, _, rfl, SqL.of (sD _ _ gL2), fun a4 n4 => ?_⟩
      generalize hg : upd _ a4 _ = HE
      obtain ⟨sE, gE⟩ := upd_new hg n4
      clear hg
      rw [eD1] at gE
      refine ⟨a3, a4, _, _, rfl, rfl, sE _ _ gD, gE, ?_, fun a5 n5 => ?_⟩
      · rw [List.length_append, List.length_map, List.length_map, List.length_take, List.length_drop]
        exact le200 (by show _ + 1 + _ ≤ _; omega)
      generalize hg : upd _ a5 _ = HF
      obtain ⟨sF, gF⟩ := upd_new hg n5
      clear hg
      have gF' : HF a5 = some (.lst ((ps.take i ++ [w0] ++ ps.drop (i + 1)).map V.str)) := by
        rw [gF, List.map_append, List.map_append]
        rfl
      have sCF := sC.trans (sD.trans (sE.trans sF))
      obtain ⟨w1, w2, w3⟩ := menu_ok w0 mw
      have f := fin HF (ps.take i ++ [w0] ++ ps.drop (i + 1)) (b07.trans ((But.of sA).trans (b8.trans (But.of sCF)))) (R8.same sCF) (by rw [tot_app, tot_app, tot_one]; omega) (fun p hp => by
        rcases List.mem_append.mp hp with hp | hp
        · rcases List.mem_append.mp hp with hp | hp
          · exact tk i p hp
          · rw [List.mem_singleton.mp hp]
            exact ⟨w1, by omega, w3⟩
        · exact dr (i + 1) p hp)
      exact ⟨⟨_, rfl⟩, _, rfl, _, a5, _, rfl, rfl, .inl (SqL.of gF'), f.1, f.2⟩
end
end My

namespace My
open PySem PySem.Spec PyProof.Rows L2 Gy Xl Xs Xt
structure X23 (K : PySem.W.Frag) (T I L N R : Addr) : Prop where
  xT : XCl K T
  mTR : PySem.W.exmOne K (.ref T) (.ref R) = some true
  kTV : PySem.W.kitOne K (.ref T) (.type "ValueError") = some true
  kTI : PySem.W.kitOne K (.ref T) (.ref I) = some false
  kTL : PySem.W.kitOne K (.ref T) (.ref L) = some false
  kTN : PySem.W.kitOne K (.ref T) (.ref N) = some false
  fT : PySem.W.findIn K (.ref T) "value" = some none
theorem kit_self {K : PySem.W.Frag} {C : Addr} : PySem.W.kitOne K (.ref C) (.ref C) = some true := by
  unfold PySem.W.kitOne
  rw [if_pos (beq_iff_eq.mpr rfl)]
theorem any3 {K : PySem.W.Frag} {t A B C : Value} (h1 : PySem.W.kitOne K t A = some false) (h2 : PySem.W.kitOne K t B = some false) (h3 : PySem.W.kitOne K t C = some false) : PySem.W.kitAny K t [A, B, C] = some false := by
  unfold PySem.W.kitAny
  rw [h1]
  unfold PySem.W.kitAny
  rw [h2]
  unfold PySem.W.kitAny
  rw [h3]
  rfl
theorem xf_of {K : PySem.W.Frag} {C : Addr} (x : XCl K C) : XfC K C := ⟨x.ga, x.gg, x.ex, x.hd⟩
theorem vals3 {x y z : V} {us : List Value} (h : Vals [x, y, z] us) : ∃ a b c, us = [a, b, c] ∧ RelV x a ∧ RelV y b ∧ RelV z c := by
  cases h with
  | cons h1 h =>
  cases h with
  | cons h2 h =>
  cases h with
  | cons h3 h =>
  cases h
  exact ⟨_, _, _, rfl, h1, h2, h3⟩
def spLaw (K : PySem.W.Frag) : Sp := fun vs H Q _ => ∃ (a : Addr) (ns : List Int), vs = [.ref a] ∧ SqL K H a (ns.map V.int) ∧ ns.length ≤ 63 ∧ ∀ H', Q (.bl true) H'
/-- what a text stands for, if for an item -/
def reads : PyData → Option PyData
  | .str x => if isItem (itemOf (Txt.split x " ")) = true then some (itemOf (Txt.split x " ")) else none
  | _ => none
def res (d : PyData) : PyData := match reads d with
  | some e => .tuple [.str "item", e]
  | none => .tuple [.str "refused", d]
theorem reads_str (x : Str) : reads (.str x) = if isItem (itemOf (Txt.split x " ")) = true then some (itemOf (Txt.split x " ")) else none := rfl
theorem res_item {x : Str} (c : isItem (itemOf (Txt.split x " ")) = true) : res (.str x) = .tuple [.str "item", itemOf (Txt.split x " ")] := by
  unfold res
  rw [reads_str, if_pos c]
theorem res_refd {x : Str} (c : isItem (itemOf (Txt.split x " ")) = false) : res (.str x) = .tuple [.str "refused", .str x] := by
  unfold res
  rw [reads_str, if_neg (by rw [c]; decide)]
/-- values that are tried -/
structure Tr (d : PyData) : Prop where
  bd : Bd 2 25000 d
  st : ∀ x, d = .str x → x.length ≤ 640 ∧ Okt x
theorem Tr.fits {d : PyData} (h : Tr d) : Fits (res d) := by
  unfold res
  cases e : reads d with
  | none => exact fits_two (bd_txt (by decide) (by decide) (by decide +kernel)) h.bd
  | some i =>
    refine fits_two (bd_txt (by decide) (by decide) (by decide +kernel)) ?_
    cases d with
    | str x =>
      rw [reads_str] at e
      split at e
      · next c =>
        injection e with e
        subst e
        exact bd_item (it_cases c) (sml_text (h.st x rfl).1).2
      · cases e
    | _ => cases e
section
variable {P : Program} {w : World} {K : PySem.W.Frag} {mg : Str → Option Value} {base : Heap} {H : Hp}
def spRes (K : PySem.W.Frag) : Sp := fun vs H Q _ => ∃ (v : V) (d : PyData), vs = [v] ∧ Dn K H v d ∧ Tr d ∧ ∀ H' t, Same H H' → Dn K H' (.ref t) (res d) → Q (.ref t) H'
theorem dn_pair {t : Addr} {a : Str} {v : V} {d : PyData} (h : Tz H t [.str a, v]) (hd : Dn K H v d) : Dn K H (.ref t) (.tuple [.str a, d]) := .tup h (.cons (.str _) (.cons hd .nil))
theorem ok_res {f T I L N R : Addr} {fd : FuncData} (F : Fun K "_law_result" "_law_result" s_law_result f fd) (Y : Bn mg) (gT : mg "InvalidText" = some (.ref T)) (gI : mg "InvalidItem" = some (.ref I)) (gL : mg "InvalidLine" = some (.ref L)) (gN : mg "InvalidName" = some (.ref N)) (gR : mg "RelinkTreeError" = some (.ref R)) (gV : mg "ValueError" = none)
    (X : X23 K T I L N R) (G : Cg K) (G_parse_item : Fk P w K mg base (L2.CX P w) 6 "parse_item" ["text"] (spPa K T)) : FnG P w K mg base CX0 7 f fd ["_law_thing"] (spRes K) := by
  refine fun_g0 F sc_law_result (fun {vs H Q E} h => ?_) (fun cdv A outer s H vs Q E gd hr h => ?_)
  · obtain ⟨v, d, rfl, _⟩ := h
    rfl
  · obtain ⟨v, d, rfl, dn, tr, q⟩ := h
    refine ⟨_, pss_cons (ps_set (i := 1) sc_law_result.nd rfl (.inl rfl) (pe_tupZ (pa_cons pe_str (pa_cons pe_non pa_nil))))
      (pss_cons (ps_try_manyAs (i := 2) (n := "e") rfl rfl sc_law_result.nd rfl rfl takes0
        (fun W pn xe tk _ => pss_one (ps_set (i := 1) sc_law_result.nd rfl (.inl rfl) (pe_tupZ (pa_cons pe_str (pa_cons (pe_callSF G_parse_item (hr.mono (by decide)) (by rfl) (fun σ => passAt tk σ) (pa_cons (pv 0) pa_nil)) pa_nil)))))
        (.cons ⟨rfl, by decide, .inl gR⟩ (fun a oe cls d pn hz hf => pss_cons
          (ps_set (i := 3) sc_law_result.nd rfl (.inl rfl) (pe_callB (show CallR _ (.builtin "isinstance") (rIsT K a cls d) from call_isT G.cg G.ct hz hf) (by rfl) Y.isinstance (by decide +kernel) (pa_cons (pv 2) (pa_cons (pe_tupZ (pa_cons (pe_glob (v := .ref I) (by rfl) gI rfl) (pa_cons (pe_glob (v := .ref L) (by rfl) gL rfl) (pa_cons (pe_glob (v := .ref N) (by rfl) gN rfl) pa_nil)))) pa_nil))))
          (pss_one (ps_if
            (PW.pt (pw_and (pt_val (pe_callB (show CallR _ (.builtin "isinstance") (rIsS K a cls d) from call_isS G.cg G.ct hz hf) (by rfl) Y.isinstance (by decide +kernel) (pa_cons (pv 2) (pa_cons (pe_glob (v := .ref T) (by rfl) gT rfl) pa_nil))))
              (pw_and (pt_val (pe_callB (show CallR _ (.builtin "isinstance") (rIsS K a cls d) from call_isS G.cg G.ct hz hf) (by rfl) Y.isinstance (by decide +kernel) (pa_cons (pv 2) (pa_cons (pe_bltn (v := .ty "ValueError") (by rfl) gV (by decide +kernel) rfl) pa_nil))))
              (pw_and1 (pt_not (pt_val (pv 3)))))))
            (pss_one (ps_set (i := 1) sc_law_result.nd rfl (.inl rfl) (pe_tupZ (pa_cons pe_str (pa_cons (pe_xf (xf_of X.xT) X.fT hz hf (pv 2)) pa_nil)))))
            pss_nil))) .nil))
      (pss_one (ps_ret (pv 1)))), ?_⟩
    refine ⟨(by show 2 ≤ sizeLine; decide), fun t0 o0 n0 s0 z0 => ?_⟩
    generalize upd _ t0 o0 = H0 at s0 z0 ⊢
    have dn0 := dn.same s0
    refine ⟨_, rfl, v, d, rfl, dn0, fun x ed => ?_, fun no H1 dx s1 e1 => ?_⟩
    · subst ed
      obtain ⟨l6, _⟩ := tr.st x rfl
      refine ⟨by omega, (sml_text l6).2, fun c H1 t s1 dt => ?_, fun c H1 dx s1 e1 => ?_⟩
      · have er : res (.str x) = .tuple [.str "item", itemOf (Txt.split x " ")] := res_item c
        rw [er] at q
        refine ⟨(by show 2 ≤ sizeLine; decide), fun t1 o1 n1 s2 z1 => ?_⟩
        exact ⟨_, rfl, q _ t1 ((s0.trans s1).trans s2) (dn_pair z1 (dt.same s2))⟩
      · have er : res (.str x) = .tuple [.str "refused", .str x] := res_refd c
        rw [er] at q
        refine ⟨true, X.mTR, fun _ a na => ?_, fun z => nomatch z⟩
        refine ⟨_, rfl, (by show 3 ≤ sizeLine; decide), fun t o n s2 z2 => ?_⟩
        refine ⟨T, dx, t, _, _, false, rfl, rfl, rfl, s2 _ _ e1, X.xT, z2, fun its rv => ?_, ?_⟩
        · obtain ⟨u1, u2, u3, rfl, r1, r2, r3⟩ := vals3 rv
          cases r1
          cases r2
          cases r3
          exact any3 X.kTI X.kTL X.kTN
        generalize upd _ t o = H2 at s2 z2 ⊢
        have e2 := s2 _ _ e1
        refine ⟨_, rfl, T, dx, _, .ref T, .ref T, true, rfl, rfl, rfl, e2, X.xT, .own T, kit_self, _, rfl, iteT ?_⟩
        refine ⟨_, rfl, T, dx, _, .ty "ValueError", .type "ValueError", true, rfl, rfl, rfl, e2, X.xT, .ty _, X.kTV, _, rfl, iteT ?_⟩
        refine ⟨_, rfl, _, rfl, iteT ?_⟩
        refine ⟨_, rfl, rfl, rfl, dx, _, _, rfl, e2, rfl, (by show 2 ≤ sizeLine; decide), fun t1 o1 n1 s3 z3 => ?_⟩
        exact ⟨_, rfl, q _ t1 ((s0.trans (s1.trans s2)).trans s3) (dn_pair z3 ((dn0.same (s1.trans s2)).same s3))⟩
    · have er : res d = .tuple [.str "refused", d] := by
        cases d with
        | str x => exact absurd rfl (no x)
        | _ => rfl
      rw [er] at q
      refine ⟨true, X.mTR, fun _ a na => ?_, fun z => nomatch z⟩
      refine ⟨_, rfl, (by show 3 ≤ sizeLine; decide), fun t o n s2 z2 => ?_⟩
      refine ⟨T, dx, t, _, _, false, rfl, rfl, rfl, s2 _ _ e1, X.xT, z2, fun its rv => ?_, ?_⟩
      · obtain ⟨u1, u2, u3, rfl, r1, r2, r3⟩ := vals3 rv
        cases r1
        cases r2
        cases r3
        exact any3 X.kTI X.kTL X.kTN
      generalize upd _ t o = H2 at s2 z2 ⊢
      have e2 := s2 _ _ e1
      refine ⟨_, rfl, T, dx, _, .ref T, .ref T, true, rfl, rfl, rfl, e2, X.xT, .own T, kit_self, _, rfl, iteT ?_⟩
      refine ⟨_, rfl, T, dx, _, .ty "ValueError", .type "ValueError", true, rfl, rfl, rfl, e2, X.xT, .ty _, X.kTV, _, rfl, iteT ?_⟩
      refine ⟨_, rfl, _, rfl, iteT ?_⟩
      refine ⟨_, rfl, rfl, rfl, dx, _, _, rfl, e2, rfl, (by show 2 ≤ sizeLine; decide), fun t1 o1 n1 s3 z3 => ?_⟩
      exact ⟨_, rfl, q _ t1 ((s0.trans (s1.trans s2)).trans s3) (dn_pair z3 ((dn0.same (s1.trans s2)).same s3))⟩
def spRight (K : PySem.W.Frag) : Sp := fun vs H Q _ => ∃ (v : V) (d : PyData), vs = [v] ∧ Dn K H v d ∧ Tr d ∧ ∀ H', Same H H' → Q (.bl true) H'
theorem ok_right {f C : Addr} {fd : FuncData} (F : Fun K "_law_right" "_law_right" s_law_right f fd) (Y : Bn mg) (G_law_read : Fk P w K mg base CX0 4 "_law_read" ["_law_thing"] (spRead K)) (G_law_result : Fg P w K mg base CX0 7 "_law_result" ["_law_thing"] (spRes K)) (G_item_text : Fk P w K mg base (L2.CX P w) 7 "item_text" ["item"] (spIT K C)) (G_law_text : Fk P w K mg base CX0 1 "_law_text" ["_law_entry_here"] (spLT K)) : FnG P w K mg base CX0 8 f fd ["_law_thing"] (spRight K) := by
  refine fun_g0 F sc_law_right (fun {vs H Q E} h => ?_) (fun cdv A outer s H vs Q E gd hr h => ?_)
  · obtain ⟨v, d, rfl, _⟩ := h
    rfl
  · obtain ⟨v, d, rfl, dn, tr, q⟩ := h
    have hu70 := Room.units70 hr
    refine ⟨_, (pss_cons (ps_set (i := 1) sc_law_right.nd rfl (.inl rfl) (pe_callF G_law_read (hr.mono (by decide)) (by rfl) pass0 (pa_cons (pv 0) pa_nil)))
 (pss_cons (ps_set (i := 2) sc_law_right.nd rfl (.inl rfl) (pe_ifExp (pt_cmpR op_isN (pv 1) pe_non (nomark _)) (pe_tupZ (pa_cons pe_str (pa_cons (pv 0) pa_nil))) (pe_tupZ (pa_cons pe_str (pa_cons (pv 1) pa_nil)))))
 (pss_cons (ps_if (pt_cmpR op_ne (pe_callB (repr_dn gd hu70) (by rfl) Y.repr (by decide +kernel) (pa_cons (pe_callFg (E := E0) G_law_result gd (hr.mono (by decide)) (by rfl) pass0 (pa_cons (pv 0) pa_nil)) pa_nil)) (pe_callB (repr_dn gd hu70) (by rfl) Y.repr (by decide +kernel) (pa_cons (pv 2) pa_nil)) (nomark _))
 (pss_one (ps_ret pe_bl))
 pss_nil)
 (pss_one (ps_ret (pe_or (pe_cmpR op_isN (pv 1) pe_non (nomark _)) (pe_one (pe_chain op_eq op_eq (pe_callF G_item_text (hr.mono (by decide)) (by rfl) passN (pa_cons (pv 1) pa_nil)) (pv 0) (pe_callF G_law_text (hr.mono (by decide)) (by rfl) pass0 (pa_cons (pv 1) pa_nil)))))))))), ?_⟩
    have ft := tr.fits
    refine ⟨_, rfl, v, d, rfl, dn, fun x ed => ?_, fun no => ?_⟩
    · subst ed
      obtain rfl : v = .str x := by cases dn; rfl
      obtain ⟨l6, ok⟩ := tr.st x rfl
      obtain ⟨r1, r2⟩ := read_item (Txt.split x " ")
      refine ⟨l6, fun c H1 t s1 dt => ?_, fun c H1 s1 => ?_⟩
      · have ci : isItem (itemOf (Txt.split x " ")) = true := r1.symm.trans c
        rw [r2 c] at dt
        have er : res (.str x) = .tuple [.str "item", itemOf (Txt.split x " ")] := res_item ci
        have tx := text_item ci
        have sm := (sml_text l6).2
        generalize itemOf (Txt.split x " ") = e at ci dt er tx sm
        have dn1 := dn.same s1
        refine ⟨_, rfl, rfl, _, rfl, iteF ?_⟩
        refine ⟨_, rfl, (by show 2 ≤ sizeLine; decide), fun t2 o2 n2 s2 z2 => ?_⟩
        generalize upd _ t2 o2 = H2 at s2 z2 ⊢
        have dt2 := dt.same s2
        have dn2 := dn1.same s2
        refine ⟨_, rfl, _, _, rfl, dn2, tr, fun H3 t3 s3 d3 => ?_⟩
        refine ⟨_, _, rfl, d3, ft.1, ft.2.1, ft.2.2, ?_⟩
        rw [er] at ft d3 ⊢
        refine ⟨_, rfl, _, _, rfl, (dn_pair z2 dt2).same s3, ft.1, ft.2.1, ft.2.2, rfl, _, rfl, ?_⟩
        rw [decide_eq_true rfl]
        refine iteF ?_
        refine ⟨_, rfl, rfl, _, rfl, iteF ?_⟩
        have dt3 := dt2.same s3
        refine ⟨_, rfl, _, e, rfl, dt3, sm, fun _ H4 s4 => ?_, fun z => absurd (ci.symm.trans z) (by decide)⟩
        rw [tx]
        refine ⟨_, rfl, rfl, _, rfl, ?_⟩
        rw [decide_eq_true rfl]
        refine iteT ?_
        refine ⟨_, rfl, _, e, rfl, dt3.same s4, sm, ci, fun H5 s5 => ?_⟩
        rw [tx]
        refine ⟨rfl, ?_⟩
        rw [decide_eq_true rfl]
        exact q _ (s1.trans (s2.trans (s3.trans (s4.trans s5))))
      · have ci : isItem (itemOf (Txt.split x " ")) = false := r1.symm.trans c
        have er : res (.str x) = .tuple [.str "refused", .str x] := res_refd ci
        refine ⟨_, rfl, rfl, _, rfl, iteT ?_⟩
        refine ⟨_, rfl, (by show 2 ≤ sizeLine; decide), fun t2 o2 n2 s2 z2 => ?_⟩
        generalize upd _ t2 o2 = H2 at s2 z2 ⊢
        have dn2 := (dn.same s1).same s2
        refine ⟨_, rfl, _, _, rfl, dn2, tr, fun H3 t3 s3 d3 => ?_⟩
        refine ⟨_, _, rfl, d3, ft.1, ft.2.1, ft.2.2, ?_⟩
        rw [er] at ft d3 ⊢
        refine ⟨_, rfl, _, _, rfl, (dn_pair z2 dn2).same s3, ft.1, ft.2.1, ft.2.2, rfl, _, rfl, ?_⟩
        rw [decide_eq_true rfl]
        refine iteF ?_
        refine ⟨_, rfl, rfl, _, rfl, iteT ?_⟩
        exact q _ (s1.trans (s2.trans s3))
    · have er : res d = .tuple [.str "refused", d] := by
        cases d with
        | str x => exact absurd rfl (no x)
        | _ => rfl
      have s1 := Same.refl H
      refine ⟨_, rfl, rfl, _, rfl, iteT ?_⟩
      refine ⟨_, rfl, (by show 2 ≤ sizeLine; decide), fun t2 o2 n2 s2 z2 => ?_⟩
      generalize upd _ t2 o2 = H2 at s2 z2 ⊢
      have dn2 := (dn.same s1).same s2
      refine ⟨_, rfl, _, _, rfl, dn2, tr, fun H3 t3 s3 d3 => ?_⟩
      refine ⟨_, _, rfl, d3, ft.1, ft.2.1, ft.2.2, ?_⟩
      rw [er] at ft d3 ⊢
      refine ⟨_, rfl, _, _, rfl, (dn_pair z2 dn2).same s3, ft.1, ft.2.1, ft.2.2, rfl, _, rfl, ?_⟩
      rw [decide_eq_true rfl]
      refine iteF ?_
      refine ⟨_, rfl, rfl, _, rfl, iteT ?_⟩
      exact q _ (s1.trans (s2.trans s3))
end
end My

namespace My
open PySem PySem.Spec PyProof.Rows L2 Gy Xl Xs Xt
def ODD : List PyData := [.none, .int 0, .bool true, .tuple [], .list [], .dict [], .tuple [.str "bye"], .list [.str "bye"], .str "", .str " ", .str "\n"]
theorem tr_a0 {d : PyData} (h : A0 d) (no : ∀ x, d ≠ .str x) : Tr d := ⟨h.mono (by decide) (by decide), fun x e => absurd e (no x)⟩
theorem tr_str {x : Str} (h : (decide (x.length ≤ 640) && (TL.tl x).all fun c => decide (c < 0x110000)) = true) : Tr (.str x) := by
  rw [Bool.and_eq_true, decide_eq_true_eq, List.all_eq_true] at h
  have ok : Okt x := fun c hc => of_decide_eq_true (h.2 c hc)
  refine ⟨(bd_txt h.1 (Nat.le_refl _) ok).mono (by decide) (by decide), fun y e => ?_⟩
  injection e with e
  subst e
  exact ⟨h.1, ok⟩
theorem bye_a0 : ∀ d ∈ ([.str "bye"] : List PyData), Bd 0 119 d := fun d hd => by
  rw [List.mem_singleton] at hd
  subst hd
  exact bd_txt (by decide) (by decide) (by decide +kernel)
theorem odd_tr : ∀ d ∈ ODD, Tr d := fun d hd => by
  unfold ODD at hd
  simp only [List.mem_cons, List.not_mem_nil, or_false] at hd
  rcases hd with rfl | rfl | rfl | rfl | rfl | rfl | rfl | rfl | rfl | rfl | rfl
  · exact tr_a0 a0_non (fun _ z => nomatch z)
  · exact tr_a0 (a0_nat (n := 0) (by decide)) (fun _ z => nomatch z)
  · exact tr_a0 a0_bl (fun _ z => nomatch z)
  · exact tr_a0 (Bd.tup (n := 0) (W := 119) (L := 1) (fun _ z => nomatch z) (by decide) (by decide)) (fun _ z => nomatch z)
  · exact tr_a0 (Bd.lst (n := 0) (W := 119) (L := 1) (fun _ z => nomatch z) (by decide) (by decide)) (fun _ z => nomatch z)
  · exact tr_a0 a0_dic (fun _ z => nomatch z)
  · exact tr_a0 (Bd.tup (n := 0) (W := 119) (L := 1) bye_a0 (by decide) (by decide)) (fun _ z => nomatch z)
  · exact tr_a0 (Bd.lst (n := 0) (W := 119) (L := 1) bye_a0 (by decide) (by decide)) (fun _ z => nomatch z)
  · exact tr_str (by decide +kernel)
  · exact tr_str (by decide +kernel)
  · exact tr_str (by decide +kernel)
def NUMS : List Str := ["0_1", "+1", "01", "-0", " 1", "1 ", "1\n", "1_", "1.", "0x1"]
def SOME : List Str := NUMS.map (fun w => ("ask a,b,c " : Str) ++ w) ++ NUMS.map (fun w => ("message a hi " : Str) ++ w) ++ [("ask a,b,c,d,e,f,g,h,i,j,k,l 1_0" : Str)]
theorem nums_small : ∀ w ∈ NUMS, w.length ≤ 3 := by decide +kernel
theorem some_tr : ∀ x ∈ SOME, Tr (.str x) := fun x hx => by
  have z : ∀ x ∈ SOME, (decide (x.length ≤ 640) && (TL.tl x).all fun c => decide (c < 0x110000)) = true := by decide +kernel
  exact tr_str (z x hx)
def LB : Nat → Nat
  | 0 => 121
  | 1 => 230
  | 2 => 353
  | _ => 585
def WB : Nat → Nat
  | 0 => 108
  | 1 => 122
  | 2 => 231
  | _ => 354
theorem lbwb {i : Nat} (h : i < 3) : LB i + WB i + 1 ≤ LB (i + 1) ∧ LB i + 1 ≤ WB (i + 1) ∧ WB i ≤ WB (i + 1) ∧ 7 ≤ WB i ∧ WB i ≤ 640 ∧ LB i ≤ 640 := by
  have z : ∀ i : Fin 3, LB i + WB i + 1 ≤ LB (i + 1) ∧ LB i + 1 ≤ WB (i + 1) ∧ WB i ≤ WB (i + 1) ∧ 7 ≤ WB i ∧ WB i ≤ 640 ∧ LB i ≤ 640 := by decide
  exact z ⟨i, h⟩
theorem lb_le (i : Nat) : LB i ≤ 640 := by
  unfold LB
  split <;> decide
section
variable {P : Program} {w : World} {K : PySem.W.Frag} {mg : Str → Option Value} {base : Heap} {H : Hp}
theorem ok_law {f : Addr} {fd : FuncData} (F : Fun K "law" "law" s_law f fd) (Y : Bn mg) (G_law_pot : Fk P w K mg base CX0 1 "_law_pot" ["_law_script", "_law_k"] (spPot K)) (G_law_draw : Fk P w K mg base CX0 1 "_law_draw" ["_law_pot_here", "_law_many"] spDraw) (G_law_entry : Fk P w K mg base CX0 4 "_law_entry" ["_law_pot_here"] (spEntD K))
    (G_law_text : Fk P w K mg base CX0 1 "_law_text" ["_law_entry_here"] (spLT K)) (G_law_put : Fk P w K mg base CX0 2 "_law_put" ["_law_pot_here", "_law_written"] spPut) (G_law_words_changed : Fk P w K mg base CX0 2 "_law_words_changed" ["_law_pot_here", "_law_written"] spWC) (G_law_right : Fg P w K mg base CX0 8 "_law_right" ["_law_thing"] (spRight K)) : FnG P w K mg base CX0 9 f fd ["_law_script"] (spLaw K) := by
  refine fun_g0 F sc_law (fun {vs H Q E} h => ?_) (fun cdv A outer s H vs Q E gd hr h => ?_)
  · obtain ⟨a, ns, rfl, _⟩ := h
    rfl
  · obtain ⟨a, ns, rfl, hS, hn, q⟩ := h
    refine ⟨_, (pss_cons (ps_for PassesOwn.never rfl (pi_range1 (by rfl) Y.range (pa_cons (pe_callB (call_max2 rfl) (by rfl) Y.max (by decide +kernel) (pa_cons pe_int (pa_cons (pe_callB (call_min2 rfl) (by rfl) Y.min (by decide +kernel) (pa_cons pe_int (pa_cons (pe_callB call_len_seq (by rfl) Y.len PySem.boot_len (pa_cons (pv 0) pa_nil)) pa_nil))) pa_nil))) pa_nil)) (pg_name (i := 1) sc_law.nd rfl (Or.inl rfl))
 (pss_cons (ps_set (i := 2) sc_law.nd rfl (.inl rfl) (pe_callF G_law_pot (hr.mono (by decide)) (by rfl) pass0 (pa_cons (pv 0) (pa_cons (pv 1) pa_nil))))
 (pss_cons (ps_for PassesOwn.never rfl (pi_range1 (by rfl) Y.range (pa_cons pe_int pa_nil)) (pg_name (i := 3) sc_law.nd rfl (Or.inl rfl))
 (pss_cons (ps_set (i := 4) sc_law.nd rfl (.inl rfl) (pe_callF G_law_text (hr.mono (by decide)) (by rfl) pass0 (pa_cons (pe_callF G_law_entry (hr.mono (by decide)) (by rfl) pass0 (pa_cons (pv 2) pa_nil)) pa_nil)))
 (pss_cons (ps_for PassesOwn.never rfl (pi_range1 (by rfl) Y.range (pa_cons (pe_op op_add pe_int (pe_callF G_law_draw (hr.mono (by decide)) (by rfl) pass0 (pa_cons (pv 2) (pa_cons pe_int pa_nil)))) pa_nil)) (pg_name (i := 5) sc_law.nd rfl (Or.inl rfl))
 (pss_one (ps_set (i := 4) sc_law.nd rfl (.inl rfl) (pe_ifExp (pt_cmpR op_eq (pe_callF G_law_draw (hr.mono (by decide)) (by rfl) pass0 (pa_cons (pv 2) (pa_cons pe_int pa_nil))) pe_int (nomark _)) (pe_callF G_law_put (hr.mono (by decide)) (by rfl) pass0 (pa_cons (pv 2) (pa_cons (pv 4) pa_nil))) (pe_callF G_law_words_changed (hr.mono (by decide)) (by rfl) pass0 (pa_cons (pv 2) (pa_cons (pv 4) pa_nil)))))))
 (pss_one (ps_if (pt_not (pt_val (pe_callFg (E := E0) G_law_right gd (hr.mono (by decide)) (by rfl) pass0 (pa_cons (pv 4) pa_nil))))
 (pss_one (ps_ret pe_bl))
 pss_nil)))))
 (pss_cons (ps_set (i := 6) sc_law.nd rfl (.inl rfl) (pe_ix ix_list (pe_lst (pa_cons pe_non (pa_cons pe_int (pa_cons pe_bl (pa_cons (pe_tupZ pa_nil) (pa_cons (pe_lst pa_nil) (pa_cons pe_dnewK (pa_cons (pe_tupZ (pa_cons pe_str pa_nil)) (pa_cons (pe_lst (pa_cons pe_str pa_nil)) (pa_cons pe_str (pa_cons pe_str (pa_cons pe_str pa_nil)))))))))))) (pe_callF G_law_draw (hr.mono (by decide)) (by rfl) pass0 (pa_cons (pv 2) (pa_cons pe_int pa_nil))) (fun _ _ => rfl)))
 (pss_cons (ps_set (i := 7) sc_law.nd rfl (.inl rfl) (pe_lst (pa_cons pe_str (pa_cons pe_str (pa_cons pe_str (pa_cons pe_str (pa_cons pe_str (pa_cons pe_str (pa_cons pe_str (pa_cons pe_str (pa_cons pe_str (pa_cons pe_str pa_nil))))))))))))
 (pss_cons (ps_set (i := 8) sc_law.nd rfl (.inl rfl) (pe_op op_cat (pe_lc (own := [("_law_word_here", 9)]) (g := gName 9) (tt := tYes) rfl sc_law.nd (pi_list (pv 7)) (blkOk_by (N := ["_law_script", "_law_k", "_law_pot_here", "_law_turn", "_law_written", "_law_change", "_law_odd", "_law_numbers", "_law_some", "_law_word_here", "_law_thing"]) (sc := defScope s_law) (by decide +kernel)) (fun _ _ _ _ _ => (pg_name (i := 9) sc_law.nd rfl (Or.inl rfl))) (fun _ _ _ _ _ => pts_nil) (fun _ _ _ _ _ => (pe_op op_add_str pe_str (pv 9)))) (pe_lc (own := [("_law_word_here", 9)]) (g := gName 9) (tt := tYes) rfl sc_law.nd (pi_list (pv 7)) (blkOk_by (N := ["_law_script", "_law_k", "_law_pot_here", "_law_turn", "_law_written", "_law_change", "_law_odd", "_law_numbers", "_law_some", "_law_word_here", "_law_thing"]) (sc := defScope s_law) (by decide +kernel)) (fun _ _ _ _ _ => (pg_name (i := 9) sc_law.nd rfl (Or.inl rfl))) (fun _ _ _ _ _ => pts_nil) (fun _ _ _ _ _ => (pe_op op_add_str pe_str (pv 9))))))
 (pss_cons (ps_expr (pe_bm PySem.F.plainAttrs_list PySem.F.slot_list_append PySem.F.type_list_append mt_append (pv 8) (pa_cons pe_str pa_nil)))
 (pss_one (ps_if (pt_not (pt_val (pe_callB (cr_all rfl) (by rfl) Y.all (by decide +kernel) (pa_cons (pe_lc (own := [("_law_thing", 10)]) (g := gName 10) (tt := tYes) rfl sc_law.nd (pi_list (pe_op op_cat (pv 8) (pe_lst (pa_cons (pv 6) pa_nil)))) (blkOk_by (N := ["_law_script", "_law_k", "_law_pot_here", "_law_turn", "_law_written", "_law_change", "_law_odd", "_law_numbers", "_law_some", "_law_word_here", "_law_thing"]) (sc := defScope s_law) (by decide +kernel)) (fun _ _ _ _ _ => (pg_name (i := 10) sc_law.nd rfl (Or.inl rfl))) (fun _ _ _ _ _ => pts_nil) (fun _ _ _ _ _ => (pe_callFg (E := E0) G_law_right gd (hr.mono (by decide)) (by rfl) pass0 (pa_cons (pv 10) pa_nil)))) pa_nil))))
 (pss_one (ps_ret pe_bl))
 pss_nil)))))))))
 (pss_one (ps_ret pe_bl))), ?_⟩
    refine ⟨_, rfl, a, _, rfl, .inl hS, 5, _, rfl, 1, _, rfl, _, rfl, ?_, ?_, ?_⟩
    · rw [List.length_map]
      split <;> split <;> omega
    · rw [List.length_map]
      split <;> split <;> omega
    generalize hm : (Int.toNat _) = mm
    have m5 : mm ≤ 5 := by
      rw [List.length_map] at hm
      rw [← hm]
      split <;> split <;> omega
    refine for_it (walk_range (lo := 0) (n := mm)) (fun i σ H' => (∃ a1 a2 a3 a4 a5 a6 a7 a8 a9 a10, σ = [some (.ref a), a1, a2, a3, a4, a5, a6, a7, a8, a9, a10]) ∧ Same H H') ⟨⟨_, _, _, _, _, _, _, _, _, _, rfl⟩, Same.refl _⟩ (fun _ _ _ _ _ => trivial) ?_ ?_
    · rintro k y σ H1 H2 hk ⟨⟨a1, a2, a3, a4, a5, a6, a7, a8, a9, a10, rfl⟩, s1⟩ ⟨rfl, rfl⟩
      refine ⟨_, rfl, _, rfl, a, ns, k, (by show [V.ref a, V.int (0 + (k : Int))] = _; rw [Int.zero_add]), s1.seq hS, by omega, fun HP r sP nr R => ?_⟩
      refine ⟨8, rfl, by decide, by decide, ?_⟩
      refine for_it (walk_range (lo := 0) (n := 8)) (fun i σ H' => (∃ a3 a4 a5 a6 a7 a8 a9 a10, σ = [some (.ref a), some (.int (0 + (k : Int))), some (.ref r), a3, a4, a5, a6, a7, a8, a9, a10]) ∧ But r HP H' ∧ Rng H' r) ⟨⟨_, _, _, _, _, _, _, _, rfl⟩, But.of (Same.refl _), R⟩ (fun _ _ _ _ _ => trivial) ?_ ?_
      · rintro i y σ H3 H4 hi ⟨⟨a3, a4, a5, a6, a7, a8, a9, a10, rfl⟩, bI, R⟩ ⟨rfl, rfl⟩
        refine ⟨_, rfl, r, rfl, R, fun HE te xs ds bE' RE tz qd en iE => ?_⟩
        have bI := bI.trans bE'
        have qE : Db K r HE (.ref te) (.tuple ds) := .tup RE tz qd
        have bE : Bd 3 6804 (.tuple ds) := Bd.tup (L := 4) en.2.2.1 en.2.1 (by decide)
        have R := RE
        clear bE' RE
        refine ⟨_, _, rfl, qE.dn, bE.sm, iE, fun HF sF => ?_⟩
        have bI := bI.trans (But.of sF)
        have R := R.same sF
        have ic := it_cases iE
        have bn := it_bounds ic (fun k' ds' c e => by
          injection e with e
          subst e
          exact (en.2.2.2 (.tuple ds') List.mem_cons_self ds' rfl).1)
        have oT : Okt (itText (.tuple ds)) := fun c hc => by
          have := it_so ic
          unfold PyData.strOk at this
          rw [← Array.all_toList, List.all_eq_true] at this
          exact of_decide_eq_true (this c hc)
        generalize itText (.tuple ds) = x0 at bn oT ⊢
        clear sF qE bE en iE ic tz qd
        refine ⟨_, rfl, r, 3, rfl, R, by decide, by decide, fun HG d bG RG d0 d3 => ?_⟩
        have bI := bI.trans bG
        refine ⟨1, d, rfl, rfl, _, rfl, by omega, by omega, ?_⟩
        have n3 : (1 + d).toNat ≤ 3 := by omega
        generalize (1 + d).toNat = m at n3 ⊢
        refine for_it (walk_range (lo := 0) (n := m)) (fun j σ H' => (∃ (x : Str) (a5 a6 a7 a8 a9 a10 : _), σ = [some (.ref a), some (.int (0 + (k : Int))), some (.ref r), some (.int (0 + (i : Int))), some (.str x), a5, a6, a7, a8, a9, a10] ∧ x.length ≤ LB j ∧ (∀ p ∈ Txt.split x " ", p.length ≤ WB j) ∧ Okt x) ∧ But r HP H' ∧ Rng H' r) ⟨⟨x0, _, _, _, _, _, _, rfl, bn.1, bn.2, oT⟩, bI, RG⟩ (fun _ _ _ _ _ => trivial) ?_ ?_
        · rintro j y σ H5 H6 hj ⟨⟨x, a5, a6, a7, a8, a9, a10, rfl, lx, wx, ox⟩, bJ, R⟩ ⟨rfl, rfl⟩
          obtain ⟨u1, u2, u3, u4, u5, u6⟩ := lbwb (show j < 3 by omega)
          refine ⟨_, rfl, r, 2, rfl, R, by decide, by decide, fun H7 e b7 R7 e0 e2 => ?_⟩
          refine ⟨rfl, _, rfl, ite2 (fun c => ?_) (fun c => ?_)⟩
          · refine ⟨_, rfl, _, rfl, r, x, rfl, R7, by omega, ox, fun H8 y b8 R8 ly oy => ?_⟩
            exact ⟨⟨y, _, _, _, _, _, _, rfl, by omega, fun p hp => Nat.le_trans (part_le y hp) (by omega), oy⟩, bJ.trans (b7.trans b8), R8⟩
          · refine ⟨_, rfl, _, rfl, r, x, WB j, rfl, R7, by omega, ox, u4, u5, wx, fun H8 y b8 R8 ly oy wy => ?_⟩
            exact ⟨⟨y, _, _, _, _, _, _, rfl, by omega, fun p hp => Nat.le_trans (wy p hp) u3, oy⟩, bJ.trans (b7.trans b8), R8⟩
        · rintro σ H5 ⟨⟨x, a5, a6, a7, a8, a9, a10, rfl, lx, wx, ox⟩, bJ, R⟩
          have lm := lb_le m
          have tr : Tr (.str x) := ⟨(bd_txt (n := 640) (by omega) (Nat.le_refl _) ox).mono (by decide) (by decide), fun y e => by
            injection e with e
            subst e
            exact ⟨by omega, ox⟩⟩
          refine ⟨_, rfl, _, _, rfl, .str x, tr, fun H6 s6 => ⟨_, rfl, iteF ?_⟩⟩
          exact ⟨⟨_, _, _, _, _, _, _, _, rfl⟩, bJ.trans (But.of s6), R.same s6⟩
      · rintro σ H3 ⟨⟨a3, a4, a5, a6, a7, a8, a9, a10, rfl⟩, bI, R⟩
        have D : Dbs K r H3 [] [] := .nil
        have D := D.app (.cons (.non) .nil)
        have D := D.app (.cons (.int 0) .nil)
        have D := D.app (.cons (.bl true) .nil)
        refine ⟨(by show 0 ≤ sizeLine; decide), fun t1 o1 n1 s1' z1 => ?_⟩
        have D := D.same s1'
        have R := R.same s1'
        have b0 := bI.trans (But.of s1')
        generalize upd _ t1 o1 = HA at D R b0 z1 ⊢
        have D := D.app (.cons (.tup R z1 (.nil)) .nil)
        refine ⟨(by show 0 ≤ sizeLine; decide), fun l2 n2 => ?_⟩
        have ne2 := R.ne n2
        generalize hg : upd _ l2 _ = HB
        obtain ⟨s2, g2⟩ := upd_new hg n2
        clear hg
        have D := D.same s2
        have R := R.same s2
        have b0 := b0.trans (But.of s2)
        have D := D.app (.cons (.lst ne2 g2 (.nil)) .nil)
        refine fun l3 n3 => ?_
        have ne3 := R.ne n3
        generalize hg : upd _ l3 _ = HC
        obtain ⟨s3, g3⟩ := upd_new hg n3
        clear hg
        have D := D.same s3
        have R := R.same s3
        have b0 := b0.trans (But.of s3)
        have D := D.app (.cons (.dic ne3 g3) .nil)
        refine ⟨(by show 1 ≤ sizeLine; decide), fun t4 o4 n4 s4 z4 => ?_⟩
        have D := D.same s4
        have R := R.same s4
        have b0 := b0.trans (But.of s4)
        generalize upd _ t4 o4 = HD at D R b0 z4 ⊢
        have D := D.app (.cons (.tup R z4 (.cons (.str "bye") .nil)) .nil)
        refine ⟨(by show 1 ≤ sizeLine; decide), fun l5 n5 => ?_⟩
        have ne5 := R.ne n5
        generalize hg : upd _ l5 _ = HE
        obtain ⟨s5, g5⟩ := upd_new hg n5
        clear hg
        have D := D.same s5
        have R := R.same s5
        have b0 := b0.trans (But.of s5)
        have D := D.app (.cons (.lst ne5 g5 (.cons (.str "bye") .nil)) .nil)
        have D := D.app (.cons (.str "") .nil)
        have D := D.app (.cons (.str " ") .nil)
        have D := D.app (.cons (.str "\n") .nil)
        simp only [List.cons_append, List.nil_append] at D
        refine ⟨(by show 11 ≤ sizeLine; decide), fun l6 n6 => ?_⟩
        have ne6 := R.ne n6
        generalize hg : upd _ l6 _ = HG
        obtain ⟨s6, g6⟩ := upd_new hg n6
        clear hg
        have D := D.same s6
        have R := R.same s6
        have b0 := b0.trans (But.of s6)
        refine ⟨_, rfl, r, 11, rfl, R, by decide, by decide, fun HI e bI' RI e0 e11 => ?_⟩
        have D := D.but bI'
        have b0 := b0.trans bI'
        obtain ⟨vo, hvo, mvo⟩ := at_in (xs := [V.non, .int 0, .bl true, .ref t1, .ref l2, .ref l3, .ref t4, .ref l5, .str "", .str " ", .str "\n"]) e0 e11
        obtain ⟨dO, mO, qO⟩ := D.mem mvo
        have trO := odd_tr dO mO
        have dnO := qO.dn
        refine ⟨l6, _, _, vo, rfl, rfl, SqL.of (bI' _ _ ne6 g6), hvo, ?_⟩
        clear D qO mvo hvo g6 z1 g2 g3 z4 g5
        refine ⟨(by show 10 ≤ sizeLine; decide), fun l7 n7 => ?_⟩
        generalize hg : upd _ l7 _ = HJ
        obtain ⟨sJ, gJ'⟩ := upd_new hg n7
        clear hg
        have gJ : HJ l7 = some (.lst (NUMS.map V.str)) := gJ'
        have dnO := dnO.same sJ
        have b0 := b0.trans (But.of sJ)
        clear gJ'
        refine ⟨_, rfl, l7, rfl, ⟨_, SqL.of gJ⟩, fun D1 nD1 => ?_⟩
        refine lc_it (walk_list (K := K) (a := l7) (xs := NUMS.map V.str)) (fun i H' => Same HJ H' ∧ H' D1 = some (.lst (((NUMS.take i).map fun w => ("ask a,b,c " : Str) ++ w).map V.str))) ⟨same_upd nD1, upd_same⟩ (fun i H' _ h => SqL.of (h.1 _ _ gJ)) ?_ ?_
        · rintro i y H7 H8 hi ⟨s7, hL⟩ ⟨rfl, hy⟩
          rw [List.getElem?_map] at hy
          obtain ⟨w0, hw0, rfl⟩ := Option.map_eq_some_iff.mp hy
          have lw := nums_small w0 (List.mem_of_getElem? hw0)
          refine ⟨rfl, ?_⟩
          dsimp only [tYes]
          refine iteT ?_
          refine ⟨_, rfl, _, _, rfl, rfl, le200 (by show 10 + _ ≤ _; omega), _, hL, ?_, same_upd2 s7 nD1, ?_⟩
          · rw [List.length_map, List.length_map, List.length_take]
            exact small200 (by have : NUMS.length = 10 := rfl; omega)
          · rw [upd_same, List.take_add_one, hw0, List.map_append, List.map_append]
            rfl
        rintro HK ⟨sK, gK⟩
        rw [List.length_map, List.take_of_length_le (Nat.le_refl _)] at gK
        refine ⟨_, rfl, l7, rfl, ⟨_, SqL.of (sK _ _ gJ)⟩, fun D2 nD2 => ?_⟩
        refine lc_it (walk_list (K := K) (a := l7) (xs := NUMS.map V.str)) (fun i H' => Same HK H' ∧ H' D2 = some (.lst (((NUMS.take i).map fun w => ("message a hi " : Str) ++ w).map V.str))) ⟨same_upd nD2, upd_same⟩ (fun i H' _ h => SqL.of (h.1 _ _ (sK _ _ gJ))) ?_ ?_
        · rintro i y H7 H8 hi ⟨s7, hL⟩ ⟨rfl, hy⟩
          rw [List.getElem?_map] at hy
          obtain ⟨w0, hw0, rfl⟩ := Option.map_eq_some_iff.mp hy
          have lw := nums_small w0 (List.mem_of_getElem? hw0)
          refine ⟨rfl, ?_⟩
          dsimp only [tYes]
          refine iteT ?_
          refine ⟨_, rfl, _, _, rfl, rfl, le200 (by show 13 + _ ≤ _; omega), _, hL, ?_, same_upd2 s7 nD2, ?_⟩
          · rw [List.length_map, List.length_map, List.length_take]
            exact small200 (by have : NUMS.length = 10 := rfl; omega)
          · rw [upd_same, List.take_add_one, hw0, List.map_append, List.map_append]
            rfl
        rintro HM ⟨sM, gM⟩
        rw [List.length_map, List.take_of_length_le (Nat.le_refl _)] at gM
        refine ⟨D1, D2, _, _, rfl, rfl, sM _ _ gK, gM, (by show 10 + 10 ≤ sizeLine; decide), fun l8 n8 => ?_⟩
        generalize hg : upd _ l8 _ = HN
        obtain ⟨sN, gN⟩ := upd_new hg n8
        clear hg
        rw [← List.map_append] at gN
        refine ⟨_, rfl, .inl ⟨rfl, _, SqL.of gN⟩, l8, _, _, rfl, rfl, gN, (by show 20 < sizeLine; decide), ?_⟩
        have sJN := sK.trans (sM.trans sN)
        have nl8 : HM l8 = none := n8
        generalize hg : upd HN l8 _ = HO
        have sMO : Same HM HO := by
          rw [← hg]
          exact fun b o e => by
            rw [upd_ne (ne_of_none e n8)]
            exact sN _ _ e
        have gO : HO l8 = some (.lst (SOME.map V.str)) := by
          rw [← hg, upd_same]
          show _ = some (L2.HO.lst ((_ ++ [_]).map V.str))
          rw [List.map_append]
          rfl
        clear hg
        have sJO := sK.trans (sM.trans sMO)
        have dnO := dnO.same sJO
        have b0 := b0.trans (But.of sJO)
        refine ⟨_, rfl, _, rfl, (by show 1 ≤ sizeLine; decide), fun l9 n9 => ?_⟩
        generalize hg : upd _ l9 _ = HP2
        obtain ⟨sP2, gP2⟩ := upd_new hg n9
        clear hg
        refine ⟨l8, l9, _, _, rfl, rfl, sP2 _ _ gO, gP2, (by show 21 + 1 ≤ sizeLine; decide), fun l10 n10 => ?_⟩
        generalize hg : upd _ l10 _ = HQ
        obtain ⟨sQ, gQ⟩ := upd_new hg n10
        clear hg
        have sOQ := sP2.trans sQ
        have dnO := dnO.same sOQ
        have b0 := b0.trans (But.of sOQ)
        have each : ∀ v ∈ SOME.map V.str ++ [vo], ∃ d, Tr d ∧ Dn K HQ v d := fun v hv => by
          rcases List.mem_append.mp hv with hv | hv
          · obtain ⟨x, hx, rfl⟩ := List.mem_map.mp hv
            exact ⟨_, some_tr x hx, .str x⟩
          · rw [List.mem_singleton.mp hv]
            exact ⟨dO, trO, dnO⟩
        have ll : (SOME.map V.str ++ [vo]).length = 22 := rfl
        generalize SOME.map V.str ++ [vo] = allv at each gQ ll
        refine ⟨l10, rfl, ⟨_, SqL.of gQ⟩, fun D3 nD3 => ?_⟩
        refine lc_it (walk_list (K := K) (a := l10) (xs := allv)) (fun i H' => Same HQ H' ∧ H' D3 = some (.lst ((List.replicate i true).map V.bl))) ⟨same_upd nD3, upd_same⟩ (fun i H' _ h => SqL.of (h.1 _ _ gQ)) ?_ ?_
        · rintro j y H7 H8 hj ⟨s7, hZ⟩ ⟨rfl, hy⟩
          obtain ⟨d, tr, dn⟩ := each y (List.mem_of_getElem? hy)
          refine ⟨rfl, ?_⟩
          dsimp only [tYes]
          refine iteT ?_
          refine ⟨_, rfl, y, d, rfl, dn.same s7, tr, fun H9 s9 => ?_⟩
          refine ⟨_, s9 _ _ hZ, ?_, same_upd2 (s7.trans s9) nD3, ?_⟩
          · rw [List.length_map, List.length_replicate]
            exact small200 (by omega)
          · rw [upd_same, List.replicate_succ', List.map_append]
            rfl
        rintro HR ⟨sR, hZ⟩
        refine ⟨D3, _, rfl, SqL.of hZ, _, rfl, ?_⟩
        rw [all_true]
        refine iteF ?_
        have b0 := b0.trans (But.of sR)
        refine ⟨⟨_, _, _, _, _, _, _, _, _, _, rfl⟩, ?_⟩
        refine fun b o e => ?_
        exact b0 b o (fun z => by rw [z] at e; rw [s1 _ _ e] at nr; cases nr) (sP b o (s1 b o e))
    · rintro σ H1 ⟨⟨a1, a2, a3, a4, a5, a6, a7, a8, a9, a10, rfl⟩, s1⟩
      exact q _
end
end My

namespace My
open PySem PySem.Spec PyProof.Rows L2 Gy Xl Xs Xt
theorem xb_mk {K : PySem.W.Frag} {x qual : Str} {st : Stmt} {f : Addr} {fd : FuncData} {ps ks : List Str} {g : List Value → List Value → List Value} {gV : List V → List V → List V} (F : Fun K x qual st f fd)
    (rel : ∀ {vs : List V} {us : List Value} {zs : List V} {ws : List Value}, Vals vs us → Vals zs ws → Vals (gV vs zs) (g us ws))
    (h : ∀ (kV doc pm : Value) (an : Option Addr) (cdv ct : Value) (b : Value) (us ws : List Value), (b :: g us ws).length = ps.length →
      bindArgs (PySem.W.fnOf x qual (defArgs st) (defBody st) (defScope st) .none kV doc pm an cdv ct) ⟨b :: us, ks.zip ws⟩ = pure (ps.zip (b :: g us ws))) : XB K fd ps ks g gV := by
  obtain ⟨oc, od, kV, doc, pm, an, cdv, ct, osl, rfl, lk, hcd⟩ := F.ex
  exact ⟨fun s b us ws _ hl => .of_eq (h kV doc pm an cdv ct b us ws hl), rel⟩
abbrev sI_InvalidItem : Stmt := inClass (top 3) 0
theorem scI_InvalidItem : FnScope ["self", "value"] ["self", "value"] (defScope sI_InvalidItem) := ⟨rfl, rfl, rfl, by decide +kernel, rfl, by decide +kernel, by decide +kernel⟩
theorem raw_InvalidItem {K : PySem.W.Frag} {c fI : Addr} {od an : Option Addr} {sl : Array (Option Value)} {oc kV dc pm cdv ct : Value}
    (ii : PySem.W.excInitIn K c [.type "ValueError", .type "Exception", .type "BaseException", .type "object"] "ValueError.__new__" = true) (ov : PySem.W.excOver K c [.type "ValueError", .type "Exception", .type "BaseException", .type "object"] = true) (sa : PySem.W.findIn K (.ref c) "__setattr__" = some (some (.builtin "object.__setattr__")))
    (ga : PySem.W.findIn K (.ref c) "__getattribute__" = some (some (.builtin "BaseException.__getattribute__"))) (gg : PySem.W.findIn K (.ref c) "__getattr__" = some none) (ca : PySem.W.findIn K (.ref c) "__class__" = some (some (.builtin "object.__class__")))
    (ex : PySem.W.subIn K (.ref c) (.type "BaseException") = some true) (ob : PySem.W.mroIn K c (.type "object") = some true) (hd : PySem.W.hasDictIn K c = true) (kp : PySem.W.keepIn K (.ref c) = true)
    (ty : PySem.W.typeIn K (.ref c) = some (.type "type")) (ini : PySem.W.findIn K (.ref c) "__init__" = some (some (.ref fI))) (tf : PySem.W.typeIn K (.ref fI) = some (.type "function"))
    (li : K.lookup fI = some ⟨oc, od, .func (PySem.W.fnOf "__init__" "InvalidItem.__init__" (defArgs sI_InvalidItem) (defBody sI_InvalidItem) (defScope sI_InvalidItem) .none kV dc pm an cdv ct), sl⟩) (ci : PySem.W.codeIn K cdv "InvalidItem.__init__" = true) (ki : PySem.W.keepIn K (.ref fI) = true)
    (n0 : PySem.W.findIn K (.ref c) "value" = some none) : XCl K c ∧ ∀ (P : Program) (w : World) (mg : Str → Option Value) (base : Heap), mg "InvalidItem" = some (.ref c) → Rz P w K mg base "InvalidItem" "value" c := by
  have X : XCl K c := ⟨⟨_, _, _, _, PySem.F.excBase_ValueError, PySem.F.store_ValueError, ii, ov⟩, sa, ga, gg, ca, ex, ob, hd, kp⟩
  refine ⟨X, fun P w mg base gm => ?_⟩
  have F := fun_mk (st := sI_InvalidItem) li ci ki
  refine ⟨gm, ty, fI, _, ⟨X, ini, tf⟩, ?_, xb_mk F (fun r _ => r) fun _ _ _ _ _ _ b us ws hl => match us, hl with | [_], _ => rfl⟩
  refine F.ok scI_InvalidItem (fun vs H Q E h => ?_) (fun cdv A outer s H vs Q E hr h => ?_)
  · obtain ⟨a, v, rfl, _⟩ := h
    rfl
  · obtain ⟨a, v, rfl, ha, q⟩ := h
    exact ⟨_, pss_one (ps_xs (pv 0) (pv 1)), v, rfl, .ref a, rfl, a, c, rfl, X, n0, .inl ⟨ha, fun dx n ne => q dx n ne⟩⟩
abbrev sI_InvalidText : Stmt := inClass (top 4) 0
theorem scI_InvalidText : FnScope ["self", "value"] ["self", "value"] (defScope sI_InvalidText) := ⟨rfl, rfl, rfl, by decide +kernel, rfl, by decide +kernel, by decide +kernel⟩
theorem raw_InvalidText {K : PySem.W.Frag} {c fI : Addr} {od an : Option Addr} {sl : Array (Option Value)} {oc kV dc pm cdv ct : Value}
    (ii : PySem.W.excInitIn K c [.type "ValueError", .type "Exception", .type "BaseException", .type "object"] "ValueError.__new__" = true) (ov : PySem.W.excOver K c [.type "ValueError", .type "Exception", .type "BaseException", .type "object"] = true) (sa : PySem.W.findIn K (.ref c) "__setattr__" = some (some (.builtin "object.__setattr__")))
    (ga : PySem.W.findIn K (.ref c) "__getattribute__" = some (some (.builtin "BaseException.__getattribute__"))) (gg : PySem.W.findIn K (.ref c) "__getattr__" = some none) (ca : PySem.W.findIn K (.ref c) "__class__" = some (some (.builtin "object.__class__")))
    (ex : PySem.W.subIn K (.ref c) (.type "BaseException") = some true) (ob : PySem.W.mroIn K c (.type "object") = some true) (hd : PySem.W.hasDictIn K c = true) (kp : PySem.W.keepIn K (.ref c) = true)
    (ty : PySem.W.typeIn K (.ref c) = some (.type "type")) (ini : PySem.W.findIn K (.ref c) "__init__" = some (some (.ref fI))) (tf : PySem.W.typeIn K (.ref fI) = some (.type "function"))
    (li : K.lookup fI = some ⟨oc, od, .func (PySem.W.fnOf "__init__" "InvalidText.__init__" (defArgs sI_InvalidText) (defBody sI_InvalidText) (defScope sI_InvalidText) .none kV dc pm an cdv ct), sl⟩) (ci : PySem.W.codeIn K cdv "InvalidText.__init__" = true) (ki : PySem.W.keepIn K (.ref fI) = true)
    (n0 : PySem.W.findIn K (.ref c) "value" = some none) : XCl K c ∧ ∀ (P : Program) (w : World) (mg : Str → Option Value) (base : Heap), mg "InvalidText" = some (.ref c) → Rz P w K mg base "InvalidText" "value" c := by
  have X : XCl K c := ⟨⟨_, _, _, _, PySem.F.excBase_ValueError, PySem.F.store_ValueError, ii, ov⟩, sa, ga, gg, ca, ex, ob, hd, kp⟩
  refine ⟨X, fun P w mg base gm => ?_⟩
  have F := fun_mk (st := sI_InvalidText) li ci ki
  refine ⟨gm, ty, fI, _, ⟨X, ini, tf⟩, ?_, xb_mk F (fun r _ => r) fun _ _ _ _ _ _ b us ws hl => match us, hl with | [_], _ => rfl⟩
  refine F.ok scI_InvalidText (fun vs H Q E h => ?_) (fun cdv A outer s H vs Q E hr h => ?_)
  · obtain ⟨a, v, rfl, _⟩ := h
    rfl
  · obtain ⟨a, v, rfl, ha, q⟩ := h
    exact ⟨_, pss_one (ps_xs (pv 0) (pv 1)), v, rfl, .ref a, rfl, a, c, rfl, X, n0, .inl ⟨ha, fun dx n ne => q dx n ne⟩⟩
theorem exm_of {K : PySem.W.Frag} {C D : Addr} {cd : ClassData} {b : Bool} (bP : PySem.W.subIn K (.ref D) (.type "BaseException") = some true) (cl : PySem.W.clsIn K D = some cd) (ty : PySem.W.typeIn K (.ref D) = some (.type "type")) (ss : PySem.W.subIn K (.ref C) (.ref D) = some b) : PySem.W.exmOne K (.ref C) (.ref D) = some b := by
  unfold PySem.W.exmOne
  rw [bP, if_pos (by rfl)]
  show (if ((PySem.W.clsIn K D).isSome && PySem.W.typeIn K (.ref D) == some (.type "type")) = true then PySem.W.subIn K (.ref C) (.ref D) else none) = _
  rw [cl, ty, if_pos (by rfl)]
  exact ss
theorem kit_bt {K : PySem.W.Frag} {C : Addr} {T : String} {b : Bool} (m : PySem.W.kitMeta T = true) (sb : PySem.W.subIn K (.ref C) (.type T) = some b) : PySem.W.kitOne K (.ref C) (.type T) = some b := by
  unfold PySem.W.kitOne
  rw [if_neg (show ¬ ((Value.ref C == Value.type T) = true) from fun z => Value.noConfusion (beq_iff_eq.mp z))]
  show (if PySem.W.kitMeta T = true then PySem.W.subIn K (.ref C) (.type T) else none) = _
  rw [if_pos m]
  exact sb
theorem kit_sub {K : PySem.W.Frag} {C D : Addr} {cd : ClassData} {b : Bool} (ne : C ≠ D) (cl : PySem.W.clsIn K D = some cd) (ty : PySem.W.typeIn K (.ref D) = some (.type "type")) (sb : PySem.W.subIn K (.ref C) (.ref D) = some b) : PySem.W.kitOne K (.ref C) (.ref D) = some b := by
  unfold PySem.W.kitOne
  rw [if_neg (fun z => ne (Value.ref.inj (beq_iff_eq.mp z)))]
  show (if ((PySem.W.clsIn K D).isSome && PySem.W.typeIn K (.ref D) == some (.type "type")) = true then PySem.W.subIn K (.ref C) (.ref D) else none) = _
  rw [cl, ty, if_pos (by rfl)]
  exact sb
theorem all_mk {l : PySem.W.OpenLaw} {w : World} {K : PySem.W.Frag} {h : Heap} {mg : Str → Option Value} {fa f_is_integer_from f_is_index f_is_text_of f_is_host_name f_is_word f_is_relink_path f_is_cut_of f_is_relink f_are_message_parts f_is_control_kind f_is_item f_parse_index f_relink_text f_relink_from f_item_from f_check_item f_item_text f_parse_item f_law_pot f_law_draw f_law_name f_law_word f_law_path f_law_entry f_law_is_name f_law_is_word f_law_is_whole f_law_is_relink f_law_is_entry f_law_text f_law_number f_law_read f_law_put f_law_words_changed f_law_result f_law_right f_law c_InvalidItem c_InvalidText : Addr} {ck : Addr} {o_ck : Obj} {cd_T : ClassData} {cd_I : ClassData} {c_InvalidLine : Addr} {cd_L : ClassData} {c_InvalidName : Addr} {cd_N : ClassData} {c_RelinkTreeError : Addr} {cd_R : ClassData} (X : K.In h) (G : h.Ns mainGlobals mg) (hfa : mg "law" = some (.ref fa))
    {od_is_integer_from od_is_index od_is_text_of od_is_host_name od_is_word od_is_relink_path od_is_cut_of od_is_relink od_are_message_parts od_is_control_kind od_is_item od_parse_index od_relink_text od_relink_from od_item_from od_check_item od_item_text od_parse_item od_law_pot od_law_draw od_law_name od_law_word od_law_path od_law_entry od_law_is_name od_law_is_word od_law_is_whole od_law_is_relink od_law_is_entry od_law_text od_law_number od_law_read od_law_put od_law_words_changed od_law_result od_law_right od_law an_is_integer_from an_is_index an_is_text_of an_is_host_name an_is_word an_is_relink_path an_is_cut_of an_is_relink an_are_message_parts an_is_control_kind an_is_item an_parse_index an_relink_text an_relink_from an_item_from an_check_item an_item_text an_parse_item an_law_pot an_law_draw an_law_name an_law_word an_law_path an_law_entry an_law_is_name an_law_is_word an_law_is_whole an_law_is_relink an_law_is_entry an_law_text an_law_number an_law_read an_law_put an_law_words_changed an_law_result an_law_right an_law : Option Addr} {sl_is_integer_from sl_is_index sl_is_text_of sl_is_host_name sl_is_word sl_is_relink_path sl_is_cut_of sl_is_relink sl_are_message_parts sl_is_control_kind sl_is_item sl_parse_index sl_relink_text sl_relink_from sl_item_from sl_check_item sl_item_text sl_parse_item sl_law_pot sl_law_draw sl_law_name sl_law_word sl_law_path sl_law_entry sl_law_is_name sl_law_is_word sl_law_is_whole sl_law_is_relink sl_law_is_entry sl_law_text sl_law_number sl_law_read sl_law_put sl_law_words_changed sl_law_result sl_law_right sl_law : Array (Option Value)} {oc_is_integer_from oc_is_index oc_is_text_of oc_is_host_name oc_is_word oc_is_relink_path oc_is_cut_of oc_is_relink oc_are_message_parts oc_is_control_kind oc_is_item oc_parse_index oc_relink_text oc_relink_from oc_item_from oc_check_item oc_item_text oc_parse_item oc_law_pot oc_law_draw oc_law_name oc_law_word oc_law_path oc_law_entry oc_law_is_name oc_law_is_word oc_law_is_whole oc_law_is_relink oc_law_is_entry oc_law_text oc_law_number oc_law_read oc_law_put oc_law_words_changed oc_law_result oc_law_right oc_law kV_is_integer_from kV_is_index kV_is_text_of kV_is_host_name kV_is_word kV_is_relink_path kV_is_cut_of kV_is_relink kV_are_message_parts kV_is_control_kind kV_is_item kV_parse_index kV_relink_text kV_relink_from kV_item_from kV_check_item kV_item_text kV_parse_item kV_law_pot kV_law_draw kV_law_name kV_law_word kV_law_path kV_law_entry kV_law_is_name kV_law_is_word kV_law_is_whole kV_law_is_relink kV_law_is_entry kV_law_text kV_law_number kV_law_read kV_law_put kV_law_words_changed kV_law_result kV_law_right kV_law dc_is_integer_from dc_is_index dc_is_text_of dc_is_host_name dc_is_word dc_is_relink_path dc_is_cut_of dc_is_relink dc_are_message_parts dc_is_control_kind dc_is_item dc_parse_index dc_relink_text dc_relink_from dc_item_from dc_check_item dc_item_text dc_parse_item dc_law_pot dc_law_draw dc_law_name dc_law_word dc_law_path dc_law_entry dc_law_is_name dc_law_is_word dc_law_is_whole dc_law_is_relink dc_law_is_entry dc_law_text dc_law_number dc_law_read dc_law_put dc_law_words_changed dc_law_result dc_law_right dc_law pm_is_integer_from pm_is_index pm_is_text_of pm_is_host_name pm_is_word pm_is_relink_path pm_is_cut_of pm_is_relink pm_are_message_parts pm_is_control_kind pm_is_item pm_parse_index pm_relink_text pm_relink_from pm_item_from pm_check_item pm_item_text pm_parse_item pm_law_pot pm_law_draw pm_law_name pm_law_word pm_law_path pm_law_entry pm_law_is_name pm_law_is_word pm_law_is_whole pm_law_is_relink pm_law_is_entry pm_law_text pm_law_number pm_law_read pm_law_put pm_law_words_changed pm_law_result pm_law_right pm_law cd_is_integer_from cd_is_index cd_is_text_of cd_is_host_name cd_is_word cd_is_relink_path cd_is_cut_of cd_is_relink cd_are_message_parts cd_is_control_kind cd_is_item cd_parse_index cd_relink_text cd_relink_from cd_item_from cd_check_item cd_item_text cd_parse_item cd_law_pot cd_law_draw cd_law_name cd_law_word cd_law_path cd_law_entry cd_law_is_name cd_law_is_word cd_law_is_whole cd_law_is_relink cd_law_is_entry cd_law_text cd_law_number cd_law_read cd_law_put cd_law_words_changed cd_law_result cd_law_right cd_law ct_is_integer_from ct_is_index ct_is_text_of ct_is_host_name ct_is_word ct_is_relink_path ct_is_cut_of ct_is_relink ct_are_message_parts ct_is_control_kind ct_is_item ct_parse_index ct_relink_text ct_relink_from ct_item_from ct_check_item ct_item_text ct_parse_item ct_law_pot ct_law_draw ct_law_name ct_law_word ct_law_path ct_law_entry ct_law_is_name ct_law_is_word ct_law_is_whole ct_law_is_relink ct_law_is_entry ct_law_text ct_law_number ct_law_read ct_law_put ct_law_words_changed ct_law_result ct_law_right ct_law : Value}
    {t_LETTERS t_DIGITS t_LONGEST_NAME t_LONGEST_WORD t_SHORTEST_PATH t_MESSAGE t_BYE t_BITS : Tok}
    (a_is_integer_from : PySem.W.nsIn K mainGlobals "is_integer_from" = some (some (.ref f_is_integer_from))) (l_is_integer_from : K.lookup f_is_integer_from = some ⟨oc_is_integer_from, od_is_integer_from, .func (PySem.W.fnOf "is_integer_from" "is_integer_from" (defArgs s_is_integer_from) (defBody s_is_integer_from) (defScope s_is_integer_from) .none kV_is_integer_from dc_is_integer_from pm_is_integer_from an_is_integer_from cd_is_integer_from ct_is_integer_from), sl_is_integer_from⟩) (co_is_integer_from : PySem.W.codeIn K cd_is_integer_from "is_integer_from" = true) (k_is_integer_from : PySem.W.keepIn K (.ref f_is_integer_from) = true)
    (a_is_index : PySem.W.nsIn K mainGlobals "is_index" = some (some (.ref f_is_index))) (l_is_index : K.lookup f_is_index = some ⟨oc_is_index, od_is_index, .func (PySem.W.fnOf "is_index" "is_index" (defArgs s_is_index) (defBody s_is_index) (defScope s_is_index) .none kV_is_index dc_is_index pm_is_index an_is_index cd_is_index ct_is_index), sl_is_index⟩) (co_is_index : PySem.W.codeIn K cd_is_index "is_index" = true) (k_is_index : PySem.W.keepIn K (.ref f_is_index) = true)
    (a_is_text_of : PySem.W.nsIn K mainGlobals "is_text_of" = some (some (.ref f_is_text_of))) (l_is_text_of : K.lookup f_is_text_of = some ⟨oc_is_text_of, od_is_text_of, .func (PySem.W.fnOf "is_text_of" "is_text_of" (defArgs s_is_text_of) (defBody s_is_text_of) (defScope s_is_text_of) .none kV_is_text_of dc_is_text_of pm_is_text_of an_is_text_of cd_is_text_of ct_is_text_of), sl_is_text_of⟩) (co_is_text_of : PySem.W.codeIn K cd_is_text_of "is_text_of" = true) (k_is_text_of : PySem.W.keepIn K (.ref f_is_text_of) = true)
    (a_is_host_name : PySem.W.nsIn K mainGlobals "is_host_name" = some (some (.ref f_is_host_name))) (l_is_host_name : K.lookup f_is_host_name = some ⟨oc_is_host_name, od_is_host_name, .func (PySem.W.fnOf "is_host_name" "is_host_name" (defArgs s_is_host_name) (defBody s_is_host_name) (defScope s_is_host_name) .none kV_is_host_name dc_is_host_name pm_is_host_name an_is_host_name cd_is_host_name ct_is_host_name), sl_is_host_name⟩) (co_is_host_name : PySem.W.codeIn K cd_is_host_name "is_host_name" = true) (k_is_host_name : PySem.W.keepIn K (.ref f_is_host_name) = true)
    (a_is_word : PySem.W.nsIn K mainGlobals "is_word" = some (some (.ref f_is_word))) (l_is_word : K.lookup f_is_word = some ⟨oc_is_word, od_is_word, .func (PySem.W.fnOf "is_word" "is_word" (defArgs s_is_word) (defBody s_is_word) (defScope s_is_word) .none kV_is_word dc_is_word pm_is_word an_is_word cd_is_word ct_is_word), sl_is_word⟩) (co_is_word : PySem.W.codeIn K cd_is_word "is_word" = true) (k_is_word : PySem.W.keepIn K (.ref f_is_word) = true)
    (a_is_relink_path : PySem.W.nsIn K mainGlobals "is_relink_path" = some (some (.ref f_is_relink_path))) (l_is_relink_path : K.lookup f_is_relink_path = some ⟨oc_is_relink_path, od_is_relink_path, .func (PySem.W.fnOf "is_relink_path" "is_relink_path" (defArgs s_is_relink_path) (defBody s_is_relink_path) (defScope s_is_relink_path) .none kV_is_relink_path dc_is_relink_path pm_is_relink_path an_is_relink_path cd_is_relink_path ct_is_relink_path), sl_is_relink_path⟩) (co_is_relink_path : PySem.W.codeIn K cd_is_relink_path "is_relink_path" = true) (k_is_relink_path : PySem.W.keepIn K (.ref f_is_relink_path) = true)
    (a_is_cut_of : PySem.W.nsIn K mainGlobals "is_cut_of" = some (some (.ref f_is_cut_of))) (l_is_cut_of : K.lookup f_is_cut_of = some ⟨oc_is_cut_of, od_is_cut_of, .func (PySem.W.fnOf "is_cut_of" "is_cut_of" (defArgs s_is_cut_of) (defBody s_is_cut_of) (defScope s_is_cut_of) .none kV_is_cut_of dc_is_cut_of pm_is_cut_of an_is_cut_of cd_is_cut_of ct_is_cut_of), sl_is_cut_of⟩) (co_is_cut_of : PySem.W.codeIn K cd_is_cut_of "is_cut_of" = true) (k_is_cut_of : PySem.W.keepIn K (.ref f_is_cut_of) = true)
    (a_is_relink : PySem.W.nsIn K mainGlobals "is_relink" = some (some (.ref f_is_relink))) (l_is_relink : K.lookup f_is_relink = some ⟨oc_is_relink, od_is_relink, .func (PySem.W.fnOf "is_relink" "is_relink" (defArgs s_is_relink) (defBody s_is_relink) (defScope s_is_relink) .none kV_is_relink dc_is_relink pm_is_relink an_is_relink cd_is_relink ct_is_relink), sl_is_relink⟩) (co_is_relink : PySem.W.codeIn K cd_is_relink "is_relink" = true) (k_is_relink : PySem.W.keepIn K (.ref f_is_relink) = true)
    (a_are_message_parts : PySem.W.nsIn K mainGlobals "are_message_parts" = some (some (.ref f_are_message_parts))) (l_are_message_parts : K.lookup f_are_message_parts = some ⟨oc_are_message_parts, od_are_message_parts, .func (PySem.W.fnOf "are_message_parts" "are_message_parts" (defArgs s_are_message_parts) (defBody s_are_message_parts) (defScope s_are_message_parts) .none kV_are_message_parts dc_are_message_parts pm_are_message_parts an_are_message_parts cd_are_message_parts ct_are_message_parts), sl_are_message_parts⟩) (co_are_message_parts : PySem.W.codeIn K cd_are_message_parts "are_message_parts" = true) (k_are_message_parts : PySem.W.keepIn K (.ref f_are_message_parts) = true)
    (a_is_control_kind : PySem.W.nsIn K mainGlobals "is_control_kind" = some (some (.ref f_is_control_kind))) (l_is_control_kind : K.lookup f_is_control_kind = some ⟨oc_is_control_kind, od_is_control_kind, .func (PySem.W.fnOf "is_control_kind" "is_control_kind" (defArgs s_is_control_kind) (defBody s_is_control_kind) (defScope s_is_control_kind) .none kV_is_control_kind dc_is_control_kind pm_is_control_kind an_is_control_kind cd_is_control_kind ct_is_control_kind), sl_is_control_kind⟩) (co_is_control_kind : PySem.W.codeIn K cd_is_control_kind "is_control_kind" = true) (k_is_control_kind : PySem.W.keepIn K (.ref f_is_control_kind) = true)
    (a_is_item : PySem.W.nsIn K mainGlobals "is_item" = some (some (.ref f_is_item))) (l_is_item : K.lookup f_is_item = some ⟨oc_is_item, od_is_item, .func (PySem.W.fnOf "is_item" "is_item" (defArgs s_is_item) (defBody s_is_item) (defScope s_is_item) .none kV_is_item dc_is_item pm_is_item an_is_item cd_is_item ct_is_item), sl_is_item⟩) (co_is_item : PySem.W.codeIn K cd_is_item "is_item" = true) (k_is_item : PySem.W.keepIn K (.ref f_is_item) = true)
    (a_parse_index : PySem.W.nsIn K mainGlobals "parse_index" = some (some (.ref f_parse_index))) (l_parse_index : K.lookup f_parse_index = some ⟨oc_parse_index, od_parse_index, .func (PySem.W.fnOf "parse_index" "parse_index" (defArgs s_parse_index) (defBody s_parse_index) (defScope s_parse_index) .none kV_parse_index dc_parse_index pm_parse_index an_parse_index cd_parse_index ct_parse_index), sl_parse_index⟩) (co_parse_index : PySem.W.codeIn K cd_parse_index "parse_index" = true) (k_parse_index : PySem.W.keepIn K (.ref f_parse_index) = true)
    (a_relink_text : PySem.W.nsIn K mainGlobals "relink_text" = some (some (.ref f_relink_text))) (l_relink_text : K.lookup f_relink_text = some ⟨oc_relink_text, od_relink_text, .func (PySem.W.fnOf "relink_text" "relink_text" (defArgs s_relink_text) (defBody s_relink_text) (defScope s_relink_text) .none kV_relink_text dc_relink_text pm_relink_text an_relink_text cd_relink_text ct_relink_text), sl_relink_text⟩) (co_relink_text : PySem.W.codeIn K cd_relink_text "relink_text" = true) (k_relink_text : PySem.W.keepIn K (.ref f_relink_text) = true)
    (a_relink_from : PySem.W.nsIn K mainGlobals "relink_from" = some (some (.ref f_relink_from))) (l_relink_from : K.lookup f_relink_from = some ⟨oc_relink_from, od_relink_from, .func (PySem.W.fnOf "relink_from" "relink_from" (defArgs s_relink_from) (defBody s_relink_from) (defScope s_relink_from) .none kV_relink_from dc_relink_from pm_relink_from an_relink_from cd_relink_from ct_relink_from), sl_relink_from⟩) (co_relink_from : PySem.W.codeIn K cd_relink_from "relink_from" = true) (k_relink_from : PySem.W.keepIn K (.ref f_relink_from) = true)
    (a_item_from : PySem.W.nsIn K mainGlobals "item_from" = some (some (.ref f_item_from))) (l_item_from : K.lookup f_item_from = some ⟨oc_item_from, od_item_from, .func (PySem.W.fnOf "item_from" "item_from" (defArgs s_item_from) (defBody s_item_from) (defScope s_item_from) .none kV_item_from dc_item_from pm_item_from an_item_from cd_item_from ct_item_from), sl_item_from⟩) (co_item_from : PySem.W.codeIn K cd_item_from "item_from" = true) (k_item_from : PySem.W.keepIn K (.ref f_item_from) = true)
    (a_check_item : PySem.W.nsIn K mainGlobals "check_item" = some (some (.ref f_check_item))) (l_check_item : K.lookup f_check_item = some ⟨oc_check_item, od_check_item, .func (PySem.W.fnOf "check_item" "check_item" (defArgs s_check_item) (defBody s_check_item) (defScope s_check_item) .none kV_check_item dc_check_item pm_check_item an_check_item cd_check_item ct_check_item), sl_check_item⟩) (co_check_item : PySem.W.codeIn K cd_check_item "check_item" = true) (k_check_item : PySem.W.keepIn K (.ref f_check_item) = true)
    (a_item_text : PySem.W.nsIn K mainGlobals "item_text" = some (some (.ref f_item_text))) (l_item_text : K.lookup f_item_text = some ⟨oc_item_text, od_item_text, .func (PySem.W.fnOf "item_text" "item_text" (defArgs s_item_text) (defBody s_item_text) (defScope s_item_text) .none kV_item_text dc_item_text pm_item_text an_item_text cd_item_text ct_item_text), sl_item_text⟩) (co_item_text : PySem.W.codeIn K cd_item_text "item_text" = true) (k_item_text : PySem.W.keepIn K (.ref f_item_text) = true)
    (a_parse_item : PySem.W.nsIn K mainGlobals "parse_item" = some (some (.ref f_parse_item))) (l_parse_item : K.lookup f_parse_item = some ⟨oc_parse_item, od_parse_item, .func (PySem.W.fnOf "parse_item" "parse_item" (defArgs s_parse_item) (defBody s_parse_item) (defScope s_parse_item) .none kV_parse_item dc_parse_item pm_parse_item an_parse_item cd_parse_item ct_parse_item), sl_parse_item⟩) (co_parse_item : PySem.W.codeIn K cd_parse_item "parse_item" = true) (k_parse_item : PySem.W.keepIn K (.ref f_parse_item) = true)
    (a_law_pot : PySem.W.nsIn K mainGlobals "_law_pot" = some (some (.ref f_law_pot))) (l_law_pot : K.lookup f_law_pot = some ⟨oc_law_pot, od_law_pot, .func (PySem.W.fnOf "_law_pot" "_law_pot" (defArgs s_law_pot) (defBody s_law_pot) (defScope s_law_pot) .none kV_law_pot dc_law_pot pm_law_pot an_law_pot cd_law_pot ct_law_pot), sl_law_pot⟩) (co_law_pot : PySem.W.codeIn K cd_law_pot "_law_pot" = true) (k_law_pot : PySem.W.keepIn K (.ref f_law_pot) = true)
    (a_law_draw : PySem.W.nsIn K mainGlobals "_law_draw" = some (some (.ref f_law_draw))) (l_law_draw : K.lookup f_law_draw = some ⟨oc_law_draw, od_law_draw, .func (PySem.W.fnOf "_law_draw" "_law_draw" (defArgs s_law_draw) (defBody s_law_draw) (defScope s_law_draw) .none kV_law_draw dc_law_draw pm_law_draw an_law_draw cd_law_draw ct_law_draw), sl_law_draw⟩) (co_law_draw : PySem.W.codeIn K cd_law_draw "_law_draw" = true) (k_law_draw : PySem.W.keepIn K (.ref f_law_draw) = true)
    (a_law_name : PySem.W.nsIn K mainGlobals "_law_name" = some (some (.ref f_law_name))) (l_law_name : K.lookup f_law_name = some ⟨oc_law_name, od_law_name, .func (PySem.W.fnOf "_law_name" "_law_name" (defArgs s_law_name) (defBody s_law_name) (defScope s_law_name) .none kV_law_name dc_law_name pm_law_name an_law_name cd_law_name ct_law_name), sl_law_name⟩) (co_law_name : PySem.W.codeIn K cd_law_name "_law_name" = true) (k_law_name : PySem.W.keepIn K (.ref f_law_name) = true)
    (a_law_word : PySem.W.nsIn K mainGlobals "_law_word" = some (some (.ref f_law_word))) (l_law_word : K.lookup f_law_word = some ⟨oc_law_word, od_law_word, .func (PySem.W.fnOf "_law_word" "_law_word" (defArgs s_law_word) (defBody s_law_word) (defScope s_law_word) .none kV_law_word dc_law_word pm_law_word an_law_word cd_law_word ct_law_word), sl_law_word⟩) (co_law_word : PySem.W.codeIn K cd_law_word "_law_word" = true) (k_law_word : PySem.W.keepIn K (.ref f_law_word) = true)
    (a_law_path : PySem.W.nsIn K mainGlobals "_law_path" = some (some (.ref f_law_path))) (l_law_path : K.lookup f_law_path = some ⟨oc_law_path, od_law_path, .func (PySem.W.fnOf "_law_path" "_law_path" (defArgs s_law_path) (defBody s_law_path) (defScope s_law_path) .none kV_law_path dc_law_path pm_law_path an_law_path cd_law_path ct_law_path), sl_law_path⟩) (co_law_path : PySem.W.codeIn K cd_law_path "_law_path" = true) (k_law_path : PySem.W.keepIn K (.ref f_law_path) = true)
    (a_law_entry : PySem.W.nsIn K mainGlobals "_law_entry" = some (some (.ref f_law_entry))) (l_law_entry : K.lookup f_law_entry = some ⟨oc_law_entry, od_law_entry, .func (PySem.W.fnOf "_law_entry" "_law_entry" (defArgs s_law_entry) (defBody s_law_entry) (defScope s_law_entry) .none kV_law_entry dc_law_entry pm_law_entry an_law_entry cd_law_entry ct_law_entry), sl_law_entry⟩) (co_law_entry : PySem.W.codeIn K cd_law_entry "_law_entry" = true) (k_law_entry : PySem.W.keepIn K (.ref f_law_entry) = true)
    (a_law_is_name : PySem.W.nsIn K mainGlobals "_law_is_name" = some (some (.ref f_law_is_name))) (l_law_is_name : K.lookup f_law_is_name = some ⟨oc_law_is_name, od_law_is_name, .func (PySem.W.fnOf "_law_is_name" "_law_is_name" (defArgs s_law_is_name) (defBody s_law_is_name) (defScope s_law_is_name) .none kV_law_is_name dc_law_is_name pm_law_is_name an_law_is_name cd_law_is_name ct_law_is_name), sl_law_is_name⟩) (co_law_is_name : PySem.W.codeIn K cd_law_is_name "_law_is_name" = true) (k_law_is_name : PySem.W.keepIn K (.ref f_law_is_name) = true)
    (a_law_is_word : PySem.W.nsIn K mainGlobals "_law_is_word" = some (some (.ref f_law_is_word))) (l_law_is_word : K.lookup f_law_is_word = some ⟨oc_law_is_word, od_law_is_word, .func (PySem.W.fnOf "_law_is_word" "_law_is_word" (defArgs s_law_is_word) (defBody s_law_is_word) (defScope s_law_is_word) .none kV_law_is_word dc_law_is_word pm_law_is_word an_law_is_word cd_law_is_word ct_law_is_word), sl_law_is_word⟩) (co_law_is_word : PySem.W.codeIn K cd_law_is_word "_law_is_word" = true) (k_law_is_word : PySem.W.keepIn K (.ref f_law_is_word) = true)
    (a_law_is_whole : PySem.W.nsIn K mainGlobals "_law_is_whole" = some (some (.ref f_law_is_whole))) (l_law_is_whole : K.lookup f_law_is_whole = some ⟨oc_law_is_whole, od_law_is_whole, .func (PySem.W.fnOf "_law_is_whole" "_law_is_whole" (defArgs s_law_is_whole) (defBody s_law_is_whole) (defScope s_law_is_whole) .none kV_law_is_whole dc_law_is_whole pm_law_is_whole an_law_is_whole cd_law_is_whole ct_law_is_whole), sl_law_is_whole⟩) (co_law_is_whole : PySem.W.codeIn K cd_law_is_whole "_law_is_whole" = true) (k_law_is_whole : PySem.W.keepIn K (.ref f_law_is_whole) = true)
    (a_law_is_relink : PySem.W.nsIn K mainGlobals "_law_is_relink" = some (some (.ref f_law_is_relink))) (l_law_is_relink : K.lookup f_law_is_relink = some ⟨oc_law_is_relink, od_law_is_relink, .func (PySem.W.fnOf "_law_is_relink" "_law_is_relink" (defArgs s_law_is_relink) (defBody s_law_is_relink) (defScope s_law_is_relink) .none kV_law_is_relink dc_law_is_relink pm_law_is_relink an_law_is_relink cd_law_is_relink ct_law_is_relink), sl_law_is_relink⟩) (co_law_is_relink : PySem.W.codeIn K cd_law_is_relink "_law_is_relink" = true) (k_law_is_relink : PySem.W.keepIn K (.ref f_law_is_relink) = true)
    (a_law_is_entry : PySem.W.nsIn K mainGlobals "_law_is_entry" = some (some (.ref f_law_is_entry))) (l_law_is_entry : K.lookup f_law_is_entry = some ⟨oc_law_is_entry, od_law_is_entry, .func (PySem.W.fnOf "_law_is_entry" "_law_is_entry" (defArgs s_law_is_entry) (defBody s_law_is_entry) (defScope s_law_is_entry) .none kV_law_is_entry dc_law_is_entry pm_law_is_entry an_law_is_entry cd_law_is_entry ct_law_is_entry), sl_law_is_entry⟩) (co_law_is_entry : PySem.W.codeIn K cd_law_is_entry "_law_is_entry" = true) (k_law_is_entry : PySem.W.keepIn K (.ref f_law_is_entry) = true)
    (a_law_text : PySem.W.nsIn K mainGlobals "_law_text" = some (some (.ref f_law_text))) (l_law_text : K.lookup f_law_text = some ⟨oc_law_text, od_law_text, .func (PySem.W.fnOf "_law_text" "_law_text" (defArgs s_law_text) (defBody s_law_text) (defScope s_law_text) .none kV_law_text dc_law_text pm_law_text an_law_text cd_law_text ct_law_text), sl_law_text⟩) (co_law_text : PySem.W.codeIn K cd_law_text "_law_text" = true) (k_law_text : PySem.W.keepIn K (.ref f_law_text) = true)
    (a_law_number : PySem.W.nsIn K mainGlobals "_law_number" = some (some (.ref f_law_number))) (l_law_number : K.lookup f_law_number = some ⟨oc_law_number, od_law_number, .func (PySem.W.fnOf "_law_number" "_law_number" (defArgs s_law_number) (defBody s_law_number) (defScope s_law_number) .none kV_law_number dc_law_number pm_law_number an_law_number cd_law_number ct_law_number), sl_law_number⟩) (co_law_number : PySem.W.codeIn K cd_law_number "_law_number" = true) (k_law_number : PySem.W.keepIn K (.ref f_law_number) = true)
    (a_law_read : PySem.W.nsIn K mainGlobals "_law_read" = some (some (.ref f_law_read))) (l_law_read : K.lookup f_law_read = some ⟨oc_law_read, od_law_read, .func (PySem.W.fnOf "_law_read" "_law_read" (defArgs s_law_read) (defBody s_law_read) (defScope s_law_read) .none kV_law_read dc_law_read pm_law_read an_law_read cd_law_read ct_law_read), sl_law_read⟩) (co_law_read : PySem.W.codeIn K cd_law_read "_law_read" = true) (k_law_read : PySem.W.keepIn K (.ref f_law_read) = true)
    (a_law_put : PySem.W.nsIn K mainGlobals "_law_put" = some (some (.ref f_law_put))) (l_law_put : K.lookup f_law_put = some ⟨oc_law_put, od_law_put, .func (PySem.W.fnOf "_law_put" "_law_put" (defArgs s_law_put) (defBody s_law_put) (defScope s_law_put) .none kV_law_put dc_law_put pm_law_put an_law_put cd_law_put ct_law_put), sl_law_put⟩) (co_law_put : PySem.W.codeIn K cd_law_put "_law_put" = true) (k_law_put : PySem.W.keepIn K (.ref f_law_put) = true)
    (a_law_words_changed : PySem.W.nsIn K mainGlobals "_law_words_changed" = some (some (.ref f_law_words_changed))) (l_law_words_changed : K.lookup f_law_words_changed = some ⟨oc_law_words_changed, od_law_words_changed, .func (PySem.W.fnOf "_law_words_changed" "_law_words_changed" (defArgs s_law_words_changed) (defBody s_law_words_changed) (defScope s_law_words_changed) .none kV_law_words_changed dc_law_words_changed pm_law_words_changed an_law_words_changed cd_law_words_changed ct_law_words_changed), sl_law_words_changed⟩) (co_law_words_changed : PySem.W.codeIn K cd_law_words_changed "_law_words_changed" = true) (k_law_words_changed : PySem.W.keepIn K (.ref f_law_words_changed) = true)
    (a_law_result : PySem.W.nsIn K mainGlobals "_law_result" = some (some (.ref f_law_result))) (l_law_result : K.lookup f_law_result = some ⟨oc_law_result, od_law_result, .func (PySem.W.fnOf "_law_result" "_law_result" (defArgs s_law_result) (defBody s_law_result) (defScope s_law_result) .none kV_law_result dc_law_result pm_law_result an_law_result cd_law_result ct_law_result), sl_law_result⟩) (co_law_result : PySem.W.codeIn K cd_law_result "_law_result" = true) (k_law_result : PySem.W.keepIn K (.ref f_law_result) = true)
    (a_law_right : PySem.W.nsIn K mainGlobals "_law_right" = some (some (.ref f_law_right))) (l_law_right : K.lookup f_law_right = some ⟨oc_law_right, od_law_right, .func (PySem.W.fnOf "_law_right" "_law_right" (defArgs s_law_right) (defBody s_law_right) (defScope s_law_right) .none kV_law_right dc_law_right pm_law_right an_law_right cd_law_right ct_law_right), sl_law_right⟩) (co_law_right : PySem.W.codeIn K cd_law_right "_law_right" = true) (k_law_right : PySem.W.keepIn K (.ref f_law_right) = true)
    (a_law : PySem.W.nsIn K mainGlobals "law" = some (some (.ref f_law))) (l_law : K.lookup f_law = some ⟨oc_law, od_law, .func (PySem.W.fnOf "law" "law" (defArgs s_law) (defBody s_law) (defScope s_law) .none kV_law dc_law pm_law an_law cd_law ct_law), sl_law⟩) (co_law : PySem.W.codeIn K cd_law "law" = true) (k_law : PySem.W.keepIn K (.ref f_law) = true)
    (v_LETTERS : PySem.W.nsIn K mainGlobals "LETTERS" = some (some (.str LET t_LETTERS)))
    (v_DIGITS : PySem.W.nsIn K mainGlobals "DIGITS" = some (some (.str DIG t_DIGITS)))
    (v_LONGEST_NAME : PySem.W.nsIn K mainGlobals "LONGEST_NAME" = some (some (.int 8 t_LONGEST_NAME)))
    (v_LONGEST_WORD : PySem.W.nsIn K mainGlobals "LONGEST_WORD" = some (some (.int 12 t_LONGEST_WORD)))
    (v_SHORTEST_PATH : PySem.W.nsIn K mainGlobals "SHORTEST_PATH" = some (some (.int 3 t_SHORTEST_PATH)))
    (v_MESSAGE : PySem.W.nsIn K mainGlobals "MESSAGE" = some (some (.str "message" t_MESSAGE)))
    (v_BYE : PySem.W.nsIn K mainGlobals "BYE" = some (some (.str "bye" t_BYE)))
    (v_BITS : PySem.W.nsIn K mainGlobals "BITS" = some (some (.int 2 t_BITS)))
    (z_len : PySem.W.nsIn K mainGlobals "len" = some none)
    (z_range : PySem.W.nsIn K mainGlobals "range" = some none)
    (z_abs : PySem.W.nsIn K mainGlobals "abs" = some none)
    (z_max : PySem.W.nsIn K mainGlobals "max" = some none)
    (z_min : PySem.W.nsIn K mainGlobals "min" = some none)
    (z_divmod : PySem.W.nsIn K mainGlobals "divmod" = some none)
    (z_isinstance : PySem.W.nsIn K mainGlobals "isinstance" = some none)
    (z_str : PySem.W.nsIn K mainGlobals "str" = some none)
    (z_int : PySem.W.nsIn K mainGlobals "int" = some none)
    (z_bool : PySem.W.nsIn K mainGlobals "bool" = some none)
    (z_tuple : PySem.W.nsIn K mainGlobals "tuple" = some none)
    (z_list : PySem.W.nsIn K mainGlobals "list" = some none)
    (z_set : PySem.W.nsIn K mainGlobals "set" = some none)
    (z_dict : PySem.W.nsIn K mainGlobals "dict" = some none)
    (z_all : PySem.W.nsIn K mainGlobals "all" = some none)
    (z_any : PySem.W.nsIn K mainGlobals "any" = some none)
    (z_repr : PySem.W.nsIn K mainGlobals "repr" = some none)
    (z_sorted : PySem.W.nsIn K mainGlobals "sorted" = some none)
    (z_enumerate : PySem.W.nsIn K mainGlobals "enumerate" = some none)
    (z_zip : PySem.W.nsIn K mainGlobals "zip" = some none)
    (e_InvalidItem : PySem.W.nsIn K mainGlobals "InvalidItem" = some (some (.ref c_InvalidItem))) (S_InvalidItem : XCl K c_InvalidItem ∧ ∀ (P : Program) (w : World) (mg : Str → Option Value) (base : Heap), mg "InvalidItem" = some (.ref c_InvalidItem) → Rz P w K mg base "InvalidItem" "value" c_InvalidItem)
    (e_InvalidText : PySem.W.nsIn K mainGlobals "InvalidText" = some (some (.ref c_InvalidText))) (S_InvalidText : XCl K c_InvalidText ∧ ∀ (P : Program) (w : World) (mg : Str → Option Value) (base : Heap), mg "InvalidText" = some (.ref c_InvalidText) → Rz P w K mg base "InvalidText" "value" c_InvalidText)
    (v_CK : PySem.W.nsIn K mainGlobals "CONTROL_KINDS" = some (some (.ref ck)))
    (l_CK : K.lookup ck = some o_ck)
    (q_CK : KindsAt o_ck)
    (cg : PySem.W.specialIn K (.builtin "object.__class__") "__get__" = some (some (.builtin "getset_descriptor.__get__")))
    (ct : PySem.W.takesIn K (.builtin "object.__class__") = some true)
    (cl_T : PySem.W.clsIn K c_InvalidText = some cd_T)
    (tP_T : PySem.W.typeIn K (.ref c_InvalidText) = some (.type "type"))
    (cl_I : PySem.W.clsIn K c_InvalidItem = some cd_I)
    (tP_I : PySem.W.typeIn K (.ref c_InvalidItem) = some (.type "type"))
    (e_InvalidLine : PySem.W.nsIn K mainGlobals "InvalidLine" = some (some (.ref c_InvalidLine)))
    (cl_L : PySem.W.clsIn K c_InvalidLine = some cd_L)
    (tP_L : PySem.W.typeIn K (.ref c_InvalidLine) = some (.type "type"))
    (e_InvalidName : PySem.W.nsIn K mainGlobals "InvalidName" = some (some (.ref c_InvalidName)))
    (cl_N : PySem.W.clsIn K c_InvalidName = some cd_N)
    (tP_N : PySem.W.typeIn K (.ref c_InvalidName) = some (.type "type"))
    (e_RelinkTreeError : PySem.W.nsIn K mainGlobals "RelinkTreeError" = some (some (.ref c_RelinkTreeError)))
    (cl_R : PySem.W.clsIn K c_RelinkTreeError = some cd_R)
    (tP_R : PySem.W.typeIn K (.ref c_RelinkTreeError) = some (.type "type"))
    (bP_R : PySem.W.subIn K (.ref c_RelinkTreeError) (.type "BaseException") = some true)
    (s_TR : PySem.W.subIn K (.ref c_InvalidText) (.ref c_RelinkTreeError) = some true)
    (sb_TValueError : PySem.W.subIn K (.ref c_InvalidText) (.type "ValueError") = some true)
    (ne_TI : c_InvalidText ≠ c_InvalidItem)
    (s_TI : PySem.W.subIn K (.ref c_InvalidText) (.ref c_InvalidItem) = some false)
    (ne_TL : c_InvalidText ≠ c_InvalidLine)
    (s_TL : PySem.W.subIn K (.ref c_InvalidText) (.ref c_InvalidLine) = some false)
    (ne_TN : c_InvalidText ≠ c_InvalidName)
    (s_TN : PySem.W.subIn K (.ref c_InvalidText) (.ref c_InvalidName) = some false)
    (f_Tvalue : PySem.W.findIn K (.ref c_InvalidText) "value" = some none)
    (zz_ValueError : PySem.W.nsIn K mainGlobals "ValueError" = some none) :
    ∃ fd : FuncData, (∀ (s : Shared) (v : Value), BindsTo s fd ⟨[v], []⟩ [("_law_script", v)]) ∧ ∀ base : Heap, K.In base → base.Ns mainGlobals mg → FnG l.prog w K mg base CX0 9 fa fd ["_law_script"] (spLaw K) := by
  have e := hfa.symm.trans (PySem.W.mg_of X G a_law)
  cases e
  have F_is_integer_from := fun_mk (st := s_is_integer_from) l_is_integer_from co_is_integer_from k_is_integer_from
  have b_is_integer_from := F_is_integer_from.binds (ps := ["value", "least"]) fun _ _ _ _ _ _ us hl => match us, hl with | [_, _], _ => rfl
  have m_is_integer_from := PySem.W.mg_of X G a_is_integer_from
  have F_is_index := fun_mk (st := s_is_index) l_is_index co_is_index k_is_index
  have b_is_index := F_is_index.binds (ps := ["value", "size"]) fun _ _ _ _ _ _ us hl => match us, hl with | [_, _], _ => rfl
  have m_is_index := PySem.W.mg_of X G a_is_index
  have F_is_text_of := fun_mk (st := s_is_text_of) l_is_text_of co_is_text_of k_is_text_of
  have b_is_text_of := F_is_text_of.binds (ps := ["value", "characters", "longest"]) fun _ _ _ _ _ _ us hl => match us, hl with | [_, _, _], _ => rfl
  have m_is_text_of := PySem.W.mg_of X G a_is_text_of
  have F_is_host_name := fun_mk (st := s_is_host_name) l_is_host_name co_is_host_name k_is_host_name
  have b_is_host_name := F_is_host_name.binds (ps := ["value"]) fun _ _ _ _ _ _ us hl => match us, hl with | [_], _ => rfl
  have m_is_host_name := PySem.W.mg_of X G a_is_host_name
  have F_is_word := fun_mk (st := s_is_word) l_is_word co_is_word k_is_word
  have b_is_word := F_is_word.binds (ps := ["value"]) fun _ _ _ _ _ _ us hl => match us, hl with | [_], _ => rfl
  have m_is_word := PySem.W.mg_of X G a_is_word
  have F_is_relink_path := fun_mk (st := s_is_relink_path) l_is_relink_path co_is_relink_path k_is_relink_path
  have b_is_relink_path := F_is_relink_path.binds (ps := ["value"]) fun _ _ _ _ _ _ us hl => match us, hl with | [_], _ => rfl
  have m_is_relink_path := PySem.W.mg_of X G a_is_relink_path
  have F_is_cut_of := fun_mk (st := s_is_cut_of) l_is_cut_of co_is_cut_of k_is_cut_of
  have b_is_cut_of := F_is_cut_of.binds (ps := ["path", "value"]) fun _ _ _ _ _ _ us hl => match us, hl with | [_, _], _ => rfl
  have m_is_cut_of := PySem.W.mg_of X G a_is_cut_of
  have F_is_relink := fun_mk (st := s_is_relink) l_is_relink co_is_relink k_is_relink
  have b_is_relink := F_is_relink.binds (ps := ["value"]) fun _ _ _ _ _ _ us hl => match us, hl with | [_], _ => rfl
  have m_is_relink := PySem.W.mg_of X G a_is_relink
  have F_are_message_parts := fun_mk (st := s_are_message_parts) l_are_message_parts co_are_message_parts k_are_message_parts
  have b_are_message_parts := F_are_message_parts.binds (ps := ["parts"]) fun _ _ _ _ _ _ us hl => match us, hl with | [_], _ => rfl
  have m_are_message_parts := PySem.W.mg_of X G a_are_message_parts
  have F_is_control_kind := fun_mk (st := s_is_control_kind) l_is_control_kind co_is_control_kind k_is_control_kind
  have b_is_control_kind := F_is_control_kind.binds (ps := ["value"]) fun _ _ _ _ _ _ us hl => match us, hl with | [_], _ => rfl
  have m_is_control_kind := PySem.W.mg_of X G a_is_control_kind
  have F_is_item := fun_mk (st := s_is_item) l_is_item co_is_item k_is_item
  have b_is_item := F_is_item.binds (ps := ["value"]) fun _ _ _ _ _ _ us hl => match us, hl with | [_], _ => rfl
  have m_is_item := PySem.W.mg_of X G a_is_item
  have F_parse_index := fun_mk (st := s_parse_index) l_parse_index co_parse_index k_parse_index
  have b_parse_index := F_parse_index.binds (ps := ["text", "size"]) fun _ _ _ _ _ _ us hl => match us, hl with | [_, _], _ => rfl
  have m_parse_index := PySem.W.mg_of X G a_parse_index
  have F_relink_text := fun_mk (st := s_relink_text) l_relink_text co_relink_text k_relink_text
  have b_relink_text := F_relink_text.binds (ps := ["relink"]) fun _ _ _ _ _ _ us hl => match us, hl with | [_], _ => rfl
  have m_relink_text := PySem.W.mg_of X G a_relink_text
  have F_relink_from := fun_mk (st := s_relink_from) l_relink_from co_relink_from k_relink_from
  have b_relink_from := F_relink_from.binds (ps := ["hosts", "cut"]) fun _ _ _ _ _ _ us hl => match us, hl with | [_, _], _ => rfl
  have m_relink_from := PySem.W.mg_of X G a_relink_from
  have F_item_from := fun_mk (st := s_item_from) l_item_from co_item_from k_item_from
  have b_item_from := F_item_from.binds (ps := ["parts"]) fun _ _ _ _ _ _ us hl => match us, hl with | [_], _ => rfl
  have m_item_from := PySem.W.mg_of X G a_item_from
  have F_check_item := fun_mk (st := s_check_item) l_check_item co_check_item k_check_item
  have b_check_item := F_check_item.binds (ps := ["value"]) fun _ _ _ _ _ _ us hl => match us, hl with | [_], _ => rfl
  have m_check_item := PySem.W.mg_of X G a_check_item
  have F_item_text := fun_mk (st := s_item_text) l_item_text co_item_text k_item_text
  have b_item_text := F_item_text.binds (ps := ["item"]) fun _ _ _ _ _ _ us hl => match us, hl with | [_], _ => rfl
  have m_item_text := PySem.W.mg_of X G a_item_text
  have F_parse_item := fun_mk (st := s_parse_item) l_parse_item co_parse_item k_parse_item
  have b_parse_item := F_parse_item.binds (ps := ["text"]) fun _ _ _ _ _ _ us hl => match us, hl with | [_], _ => rfl
  have m_parse_item := PySem.W.mg_of X G a_parse_item
  have F_law_pot := fun_mk (st := s_law_pot) l_law_pot co_law_pot k_law_pot
  have b_law_pot := F_law_pot.binds (ps := ["_law_script", "_law_k"]) fun _ _ _ _ _ _ us hl => match us, hl with | [_, _], _ => rfl
  have m_law_pot := PySem.W.mg_of X G a_law_pot
  have F_law_draw := fun_mk (st := s_law_draw) l_law_draw co_law_draw k_law_draw
  have b_law_draw := F_law_draw.binds (ps := ["_law_pot_here", "_law_many"]) fun _ _ _ _ _ _ us hl => match us, hl with | [_, _], _ => rfl
  have m_law_draw := PySem.W.mg_of X G a_law_draw
  have F_law_name := fun_mk (st := s_law_name) l_law_name co_law_name k_law_name
  have b_law_name := F_law_name.binds (ps := ["_law_pot_here", "_law_used"]) fun _ _ _ _ _ _ us hl => match us, hl with | [_, _], _ => rfl
  have m_law_name := PySem.W.mg_of X G a_law_name
  have F_law_word := fun_mk (st := s_law_word) l_law_word co_law_word k_law_word
  have b_law_word := F_law_word.binds (ps := ["_law_pot_here"]) fun _ _ _ _ _ _ us hl => match us, hl with | [_], _ => rfl
  have m_law_word := PySem.W.mg_of X G a_law_word
  have F_law_path := fun_mk (st := s_law_path) l_law_path co_law_path k_law_path
  have b_law_path := F_law_path.binds (ps := ["_law_pot_here"]) fun _ _ _ _ _ _ us hl => match us, hl with | [_], _ => rfl
  have m_law_path := PySem.W.mg_of X G a_law_path
  have F_law_entry := fun_mk (st := s_law_entry) l_law_entry co_law_entry k_law_entry
  have b_law_entry := F_law_entry.binds (ps := ["_law_pot_here"]) fun _ _ _ _ _ _ us hl => match us, hl with | [_], _ => rfl
  have m_law_entry := PySem.W.mg_of X G a_law_entry
  have F_law_is_name := fun_mk (st := s_law_is_name) l_law_is_name co_law_is_name k_law_is_name
  have b_law_is_name := F_law_is_name.binds (ps := ["_law_thing"]) fun _ _ _ _ _ _ us hl => match us, hl with | [_], _ => rfl
  have m_law_is_name := PySem.W.mg_of X G a_law_is_name
  have F_law_is_word := fun_mk (st := s_law_is_word) l_law_is_word co_law_is_word k_law_is_word
  have b_law_is_word := F_law_is_word.binds (ps := ["_law_thing"]) fun _ _ _ _ _ _ us hl => match us, hl with | [_], _ => rfl
  have m_law_is_word := PySem.W.mg_of X G a_law_is_word
  have F_law_is_whole := fun_mk (st := s_law_is_whole) l_law_is_whole co_law_is_whole k_law_is_whole
  have b_law_is_whole := F_law_is_whole.binds (ps := ["_law_thing", "_law_least", "_law_most"]) fun _ _ _ _ _ _ us hl => match us, hl with | [_, _, _], _ => rfl
  have m_law_is_whole := PySem.W.mg_of X G a_law_is_whole
  have F_law_is_relink := fun_mk (st := s_law_is_relink) l_law_is_relink co_law_is_relink k_law_is_relink
  have b_law_is_relink := F_law_is_relink.binds (ps := ["_law_path_here", "_law_cut"]) fun _ _ _ _ _ _ us hl => match us, hl with | [_, _], _ => rfl
  have m_law_is_relink := PySem.W.mg_of X G a_law_is_relink
  have F_law_is_entry := fun_mk (st := s_law_is_entry) l_law_is_entry co_law_is_entry k_law_is_entry
  have b_law_is_entry := F_law_is_entry.binds (ps := ["_law_thing"]) fun _ _ _ _ _ _ us hl => match us, hl with | [_], _ => rfl
  have m_law_is_entry := PySem.W.mg_of X G a_law_is_entry
  have F_law_text := fun_mk (st := s_law_text) l_law_text co_law_text k_law_text
  have b_law_text := F_law_text.binds (ps := ["_law_entry_here"]) fun _ _ _ _ _ _ us hl => match us, hl with | [_], _ => rfl
  have m_law_text := PySem.W.mg_of X G a_law_text
  have F_law_number := fun_mk (st := s_law_number) l_law_number co_law_number k_law_number
  have b_law_number := F_law_number.binds (ps := ["_law_word_here"]) fun _ _ _ _ _ _ us hl => match us, hl with | [_], _ => rfl
  have m_law_number := PySem.W.mg_of X G a_law_number
  have F_law_read := fun_mk (st := s_law_read) l_law_read co_law_read k_law_read
  have b_law_read := F_law_read.binds (ps := ["_law_thing"]) fun _ _ _ _ _ _ us hl => match us, hl with | [_], _ => rfl
  have m_law_read := PySem.W.mg_of X G a_law_read
  have F_law_put := fun_mk (st := s_law_put) l_law_put co_law_put k_law_put
  have b_law_put := F_law_put.binds (ps := ["_law_pot_here", "_law_written"]) fun _ _ _ _ _ _ us hl => match us, hl with | [_, _], _ => rfl
  have m_law_put := PySem.W.mg_of X G a_law_put
  have F_law_words_changed := fun_mk (st := s_law_words_changed) l_law_words_changed co_law_words_changed k_law_words_changed
  have b_law_words_changed := F_law_words_changed.binds (ps := ["_law_pot_here", "_law_written"]) fun _ _ _ _ _ _ us hl => match us, hl with | [_, _], _ => rfl
  have m_law_words_changed := PySem.W.mg_of X G a_law_words_changed
  have F_law_result := fun_mk (st := s_law_result) l_law_result co_law_result k_law_result
  have b_law_result := F_law_result.binds (ps := ["_law_thing"]) fun _ _ _ _ _ _ us hl => match us, hl with | [_], _ => rfl
  have m_law_result := PySem.W.mg_of X G a_law_result
  have F_law_right := fun_mk (st := s_law_right) l_law_right co_law_right k_law_right
  have b_law_right := F_law_right.binds (ps := ["_law_thing"]) fun _ _ _ _ _ _ us hl => match us, hl with | [_], _ => rfl
  have m_law_right := PySem.W.mg_of X G a_law_right
  have F_law := fun_mk (st := s_law) l_law co_law k_law
  have b_law := F_law.binds (ps := ["_law_script"]) fun _ _ _ _ _ _ us hl => match us, hl with | [_], _ => rfl
  have m_law := PySem.W.mg_of X G a_law
  have w_LETTERS := PySem.W.mg_of X G v_LETTERS
  have w_DIGITS := PySem.W.mg_of X G v_DIGITS
  have w_LONGEST_NAME := PySem.W.mg_of X G v_LONGEST_NAME
  have w_LONGEST_WORD := PySem.W.mg_of X G v_LONGEST_WORD
  have w_SHORTEST_PATH := PySem.W.mg_of X G v_SHORTEST_PATH
  have w_MESSAGE := PySem.W.mg_of X G v_MESSAGE
  have w_BYE := PySem.W.mg_of X G v_BYE
  have w_BITS := PySem.W.mg_of X G v_BITS
  have Y : Bn mg := ⟨PySem.W.mg_none_of X G z_len, PySem.W.mg_none_of X G z_range, PySem.W.mg_none_of X G z_abs, PySem.W.mg_none_of X G z_max, PySem.W.mg_none_of X G z_min, PySem.W.mg_none_of X G z_divmod, PySem.W.mg_none_of X G z_isinstance, PySem.W.mg_none_of X G z_str, PySem.W.mg_none_of X G z_int, PySem.W.mg_none_of X G z_bool, PySem.W.mg_none_of X G z_tuple, PySem.W.mg_none_of X G z_list, PySem.W.mg_none_of X G z_set, PySem.W.mg_none_of X G z_dict, PySem.W.mg_none_of X G z_all, PySem.W.mg_none_of X G z_any, PySem.W.mg_none_of X G z_repr, PySem.W.mg_none_of X G z_sorted, PySem.W.mg_none_of X G z_enumerate, PySem.W.mg_none_of X G z_zip⟩
  refine ⟨PySem.W.fnOf "law" "law" (defArgs s_law) (defBody s_law) (defScope s_law) .none kV_law dc_law pm_law an_law cd_law ct_law, fun s v => .of_eq rfl, fun base _ _ => ?_⟩
  have R_InvalidItem := S_InvalidItem.2 l.prog w mg base (PySem.W.mg_of X G e_InvalidItem)
  have R_InvalidText := S_InvalidText.2 l.prog w mg base (PySem.W.mg_of X G e_InvalidText)
  have TC : TxtC mg := ⟨⟨_, w_LETTERS⟩, ⟨_, w_LONGEST_NAME⟩⟩
  have TW : TxtW mg := ⟨⟨_, w_DIGITS⟩, ⟨_, w_LONGEST_WORD⟩⟩
  have TI : TxtI mg := ⟨⟨_, w_MESSAGE⟩, ⟨_, w_BYE⟩, ⟨_, w_BITS⟩⟩
  have TK : TxtK K mg := ⟨ck, o_ck, PySem.W.mg_of X G v_CK, l_CK, q_CK⟩
  have X3 : X23 K c_InvalidText c_InvalidItem c_InvalidLine c_InvalidName c_RelinkTreeError := ⟨S_InvalidText.1, (exm_of bP_R cl_R tP_R s_TR), (kit_bt (by decide +kernel) sb_TValueError), (kit_sub ne_TI cl_I tP_I s_TI), (kit_sub ne_TL cl_L tP_L s_TL), (kit_sub ne_TN cl_N tP_N s_TN), f_Tvalue⟩
  have G_is_integer_from := (⟨⟨_, _, m_is_integer_from, k_is_integer_from, b_is_integer_from, ok_from F_is_integer_from Y⟩⟩ : Fk l.prog w K mg base _ _ "is_integer_from" _ _)
  have G_is_index := (⟨⟨_, _, m_is_index, k_is_index, b_is_index, ok_idx F_is_index G_is_integer_from⟩⟩ : Fk l.prog w K mg base _ _ "is_index" _ _)
  have G_is_text_of := (⟨⟨_, _, m_is_text_of, k_is_text_of, b_is_text_of, ok_text F_is_text_of Y⟩⟩ : Fk l.prog w K mg base _ _ "is_text_of" _ _)
  have G_is_host_name := (⟨⟨_, _, m_is_host_name, k_is_host_name, b_is_host_name, ok_host F_is_host_name TC G_is_text_of⟩⟩ : Fk l.prog w K mg base _ _ "is_host_name" _ _)
  have G_is_word := (⟨⟨_, _, m_is_word, k_is_word, b_is_word, ok_word F_is_word TC TW G_is_text_of⟩⟩ : Fk l.prog w K mg base _ _ "is_word" _ _)
  have G_is_relink_path := (⟨⟨_, _, m_is_relink_path, k_is_relink_path, b_is_relink_path, ok_path F_is_relink_path Y ⟨_, w_SHORTEST_PATH⟩ G_is_host_name⟩⟩ : Fk l.prog w K mg base _ _ "is_relink_path" _ _)
  have G_is_cut_of := (⟨⟨_, _, m_is_cut_of, k_is_cut_of, b_is_cut_of, ok_cut F_is_cut_of Y G_is_index⟩⟩ : Fk l.prog w K mg base _ _ "is_cut_of" _ _)
  have G_is_relink := (⟨⟨_, _, m_is_relink, k_is_relink, b_is_relink, ok_rel F_is_relink Y G_is_relink_path G_is_cut_of⟩⟩ : Fk l.prog w K mg base _ _ "is_relink" _ _)
  have G_are_message_parts := (⟨⟨_, _, m_are_message_parts, k_are_message_parts, b_are_message_parts, ok_msg F_are_message_parts Y TI G_is_host_name G_is_word G_is_index⟩⟩ : Fk l.prog w K mg base _ _ "are_message_parts" _ _)
  have G_is_control_kind := (⟨⟨_, _, m_is_control_kind, k_is_control_kind, b_is_control_kind, ok_kind F_is_control_kind Y TK⟩⟩ : Fk l.prog w K mg base _ _ "is_control_kind" _ _)
  have G_is_item := (⟨⟨_, _, m_is_item, k_is_item, b_is_item, ok_item F_is_item Y TI G_are_message_parts G_is_control_kind G_is_relink⟩⟩ : Fk l.prog w K mg base _ _ "is_item" _ _)
  have G_parse_index := (⟨⟨_, _, m_parse_index, k_parse_index, b_parse_index, ok_pi F_parse_index Y⟩⟩ : Fk l.prog w K mg base _ _ "parse_index" _ _)
  have G_relink_text := (⟨⟨_, _, m_relink_text, k_relink_text, b_relink_text, ok_rt F_relink_text⟩⟩ : Fk l.prog w K mg base _ _ "relink_text" _ _)
  have G_relink_from := (⟨⟨_, _, m_relink_from, k_relink_from, b_relink_from, ok_rf F_relink_from Y G_parse_index⟩⟩ : Fk l.prog w K mg base _ _ "relink_from" _ _)
  have G_item_from := (⟨⟨_, _, m_item_from, k_item_from, b_item_from, ok_if F_item_from Y TI G_parse_index G_relink_from⟩⟩ : Fk l.prog w K mg base _ _ "item_from" _ _)
  have G_check_item := (⟨⟨_, _, m_check_item, k_check_item, b_check_item, ok_chk F_check_item R_InvalidItem G_is_item⟩⟩ : Fk l.prog w K mg base _ _ "check_item" _ _)
  have G_item_text := (⟨⟨_, _, m_item_text, k_item_text, b_item_text, ok_it F_item_text Y G_check_item G_is_control_kind G_relink_text⟩⟩ : Fk l.prog w K mg base _ _ "item_text" _ _)
  have G_parse_item := (⟨⟨_, _, m_parse_item, k_parse_item, b_parse_item, ok_pa F_parse_item Y R_InvalidText G_item_from G_is_item⟩⟩ : Fk l.prog w K mg base _ _ "parse_item" _ _)
  have G_law_pot := (⟨⟨_, _, m_law_pot, k_law_pot, b_law_pot, ok_pot F_law_pot Y⟩⟩ : Fk l.prog w K mg base _ _ "_law_pot" _ _)
  have G_law_draw := (⟨⟨_, _, m_law_draw, k_law_draw, b_law_draw, ok_draw F_law_draw Y⟩⟩ : Fk l.prog w K mg base _ _ "_law_draw" _ _)
  have G_law_name := (⟨⟨_, _, m_law_name, k_law_name, b_law_name, ok_name F_law_name Y G_law_draw⟩⟩ : Fk l.prog w K mg base _ _ "_law_name" _ _)
  have G_law_word := (⟨⟨_, _, m_law_word, k_law_word, b_law_word, ok_wordD F_law_word Y G_law_draw⟩⟩ : Fk l.prog w K mg base _ _ "_law_word" _ _)
  have G_law_path := (⟨⟨_, _, m_law_path, k_law_path, b_law_path, ok_pathD F_law_path Y G_law_draw G_law_name⟩⟩ : Fk l.prog w K mg base _ _ "_law_path" _ _)
  have G_law_entry := (⟨⟨_, _, m_law_entry, k_law_entry, b_law_entry, ok_entD F_law_entry Y G_law_draw G_law_name G_law_word G_law_path⟩⟩ : Fk l.prog w K mg base _ _ "_law_entry" _ _)
  have G_law_is_name := (⟨⟨_, _, m_law_is_name, k_law_is_name, b_law_is_name, ok_isName F_law_is_name Y⟩⟩ : Fk l.prog w K mg base _ _ "_law_is_name" _ _)
  have G_law_is_word := (⟨⟨_, _, m_law_is_word, k_law_is_word, b_law_is_word, ok_isWord F_law_is_word Y⟩⟩ : Fk l.prog w K mg base _ _ "_law_is_word" _ _)
  have G_law_is_whole := (⟨⟨_, _, m_law_is_whole, k_law_is_whole, b_law_is_whole, ok_whole F_law_is_whole Y⟩⟩ : Fk l.prog w K mg base _ _ "_law_is_whole" _ _)
  have G_law_is_relink := (⟨⟨_, _, m_law_is_relink, k_law_is_relink, b_law_is_relink, ok_isRel F_law_is_relink Y G_law_is_name G_law_is_whole⟩⟩ : Fk l.prog w K mg base _ _ "_law_is_relink" _ _)
  have G_law_is_entry := (⟨⟨_, _, m_law_is_entry, k_law_is_entry, b_law_is_entry, ok_ent F_law_is_entry Y G_law_is_name G_law_is_word G_law_is_whole G_law_is_relink⟩⟩ : Fk l.prog w K mg base _ _ "_law_is_entry" _ _)
  have G_law_text := (⟨⟨_, _, m_law_text, k_law_text, b_law_text, ok_lt F_law_text Y⟩⟩ : Fk l.prog w K mg base _ _ "_law_text" _ _)
  have G_law_number := (⟨⟨_, _, m_law_number, k_law_number, b_law_number, ok_num F_law_number Y⟩⟩ : Fk l.prog w K mg base _ _ "_law_number" _ _)
  have G_law_read := (⟨⟨_, _, m_law_read, k_law_read, b_law_read, ok_read F_law_read Y G_law_number G_law_is_entry⟩⟩ : Fk l.prog w K mg base _ _ "_law_read" _ _)
  have G_law_put := (⟨⟨_, _, m_law_put, k_law_put, b_law_put, ok_put F_law_put Y G_law_draw⟩⟩ : Fk l.prog w K mg base _ _ "_law_put" _ _)
  have G_law_words_changed := (⟨⟨_, _, m_law_words_changed, k_law_words_changed, b_law_words_changed, ok_wc F_law_words_changed Y G_law_draw⟩⟩ : Fk l.prog w K mg base _ _ "_law_words_changed" _ _)
  have G_law_result := (⟨⟨_, _, m_law_result, k_law_result, b_law_result, ok_res F_law_result Y (PySem.W.mg_of X G e_InvalidText) (PySem.W.mg_of X G e_InvalidItem) (PySem.W.mg_of X G e_InvalidLine) (PySem.W.mg_of X G e_InvalidName) (PySem.W.mg_of X G e_RelinkTreeError) (PySem.W.mg_none_of X G zz_ValueError) X3 ⟨cg, ct⟩ G_parse_item⟩⟩ : Fg l.prog w K mg base _ _ "_law_result" _ _)
  have G_law_right := (⟨⟨_, _, m_law_right, k_law_right, b_law_right, ok_right F_law_right Y G_law_read G_law_result G_item_text G_law_text⟩⟩ : Fg l.prog w K mg base _ _ "_law_right" _ _)
  exact ok_law F_law Y G_law_pot G_law_draw G_law_entry G_law_text G_law_put G_law_words_changed G_law_right
end My

open PySem PySem.W PyProof.Rows in
set_option maxRecDepth 100000 in
set_option maxHeartbeats 0 in
theorem PySem.Challenge.cw_relinktree_k23_item_texts_spoilt_holds : PySem.Challenge.rw_relinktree_k23_item_texts_spoilt.Holds := by
  w_on; o_law; k_head; (case hw => w_witness2)
  k_fill
  refine Gy.walk_g (l := PySem.Challenge.rw_relinktree_k23_item_texts_spoilt) (n := 63) (k := 9) (x := "_law_script") (sp := My.spLaw) rfl (by decide) rfl ⟨rfl, by decide, by decide⟩ (fun w h Y => PySem.W.kIn_of Y) ?F (fun K H a ns hl hS => ⟨a, ns, rfl, hS, hl, fun _ => rfl⟩)
  case F =>
    intro w mg fa h KX G hmg
    refine' My.all_mk KX G hmg ?a_is_integer_from ?l_is_integer_from ?co_is_integer_from ?k_is_integer_from ?a_is_index ?l_is_index ?co_is_index ?k_is_index ?a_is_text_of ?l_is_text_of ?co_is_text_of ?k_is_text_of ?a_is_host_name ?l_is_host_name ?co_is_host_name ?k_is_host_name ?a_is_word ?l_is_word ?co_is_word ?k_is_word ?a_is_relink_path ?l_is_relink_path ?co_is_relink_path ?k_is_relink_path ?a_is_cut_of ?l_is_cut_of ?co_is_cut_of ?k_is_cut_of ?a_is_relink ?l_is_relink ?co_is_relink ?k_is_relink ?a_are_message_parts ?l_are_message_parts ?co_are_message_parts ?k_are_message_parts ?a_is_control_kind ?l_is_control_kind ?co_is_control_kind ?k_is_control_kind ?a_is_item ?l_is_item ?co_is_item ?k_is_item ?a_parse_index ?l_parse_index ?co_parse_index ?k_parse_index ?a_relink_text ?l_relink_text ?co_relink_text ?k_relink_text ?a_relink_from ?l_relink_from ?co_relink_from ?k_relink_from ?a_item_from ?l_item_from ?co_item_from ?k_item_from ?a_check_item ?l_check_item ?co_check_item ?k_check_item ?a_item_text ?l_item_text ?co_item_text ?k_item_text ?a_parse_item ?l_parse_item ?co_parse_item ?k_parse_item ?a_law_pot ?l_law_pot ?co_law_pot ?k_law_pot ?a_law_draw ?l_law_draw ?co_law_draw ?k_law_draw ?a_law_name ?l_law_name ?co_law_name ?k_law_name ?a_law_word ?l_law_word ?co_law_word ?k_law_word ?a_law_path ?l_law_path ?co_law_path ?k_law_path ?a_law_entry ?l_law_entry ?co_law_entry ?k_law_entry ?a_law_is_name ?l_law_is_name ?co_law_is_name ?k_law_is_name ?a_law_is_word ?l_law_is_word ?co_law_is_word ?k_law_is_word ?a_law_is_whole ?l_law_is_whole ?co_law_is_whole ?k_law_is_whole ?a_law_is_relink ?l_law_is_relink ?co_law_is_relink ?k_law_is_relink ?a_law_is_entry ?l_law_is_entry ?co_law_is_entry ?k_law_is_entry ?a_law_text ?l_law_text ?co_law_text ?k_law_text ?a_law_number ?l_law_number ?co_law_number ?k_law_number ?a_law_read ?l_law_read ?co_law_read ?k_law_read ?a_law_put ?l_law_put ?co_law_put ?k_law_put ?a_law_words_changed ?l_law_words_changed ?co_law_words_changed ?k_law_words_changed ?a_law_result ?l_law_result ?co_law_result ?k_law_result ?a_law_right ?l_law_right ?co_law_right ?k_law_right ?a_law ?l_law ?co_law ?k_law ?v_LETTERS ?v_DIGITS ?v_LONGEST_NAME ?v_LONGEST_WORD ?v_SHORTEST_PATH ?v_MESSAGE ?v_BYE ?v_BITS ?z_len ?z_range ?z_abs ?z_max ?z_min ?z_divmod ?z_isinstance ?z_str ?z_int ?z_bool ?z_tuple ?z_list ?z_set ?z_dict ?z_all ?z_any ?z_repr ?z_sorted ?z_enumerate ?z_zip ?e_InvalidItem ?S_InvalidItem ?e_InvalidText ?S_InvalidText ?v_CK ?l_CK ?q_CK ?cg ?ct ?cl_T ?tP_T ?cl_I ?tP_I ?e_InvalidLine ?cl_L ?tP_L ?e_InvalidName ?cl_N ?tP_N ?e_RelinkTreeError ?cl_R ?tP_R ?bP_R ?s_TR ?sb_TValueError ?ne_TI ?s_TI ?ne_TL ?s_TL ?ne_TN ?s_TN ?f_Tvalue ?zz_ValueError
    (case a_is_integer_from => k_is)
    (case l_is_integer_from => k_is)
    (case co_is_integer_from => k_is)
    (case k_is_integer_from => k_is)
    (case a_is_index => k_is)
    (case l_is_index => k_is)
    (case co_is_index => k_is)
    (case k_is_index => k_is)
    (case a_is_text_of => k_is)
    (case l_is_text_of => k_is)
    (case co_is_text_of => k_is)
    (case k_is_text_of => k_is)
    (case a_is_host_name => k_is)
    (case l_is_host_name => k_is)
    (case co_is_host_name => k_is)
    (case k_is_host_name => k_is)
    (case a_is_word => k_is)
    (case l_is_word => k_is)
    (case co_is_word => k_is)
    (case k_is_word => k_is)
    (case a_is_relink_path => k_is)
    (case l_is_relink_path => k_is)
    (case co_is_relink_path => k_is)
    (case k_is_relink_path => k_is)
    (case a_is_cut_of => k_is)
    (case l_is_cut_of => k_is)
    (case co_is_cut_of => k_is)
    (case k_is_cut_of => k_is)
    (case a_is_relink => k_is)
    (case l_is_relink => k_is)
    (case co_is_relink => k_is)
    (case k_is_relink => k_is)
    (case a_are_message_parts => k_is)
    (case l_are_message_parts => k_is)
    (case co_are_message_parts => k_is)
    (case k_are_message_parts => k_is)
    (case a_is_control_kind => k_is)
    (case l_is_control_kind => k_is)
    (case co_is_control_kind => k_is)
    (case k_is_control_kind => k_is)
    (case a_is_item => k_is)
    (case l_is_item => k_is)
    (case co_is_item => k_is)
    (case k_is_item => k_is)
    (case a_parse_index => k_is)
    (case l_parse_index => k_is)
    (case co_parse_index => k_is)
    (case k_parse_index => k_is)
    (case a_relink_text => k_is)
    (case l_relink_text => k_is)
    (case co_relink_text => k_is)
    (case k_relink_text => k_is)
    (case a_relink_from => k_is)
    (case l_relink_from => k_is)
    (case co_relink_from => k_is)
    (case k_relink_from => k_is)
    (case a_item_from => k_is)
    (case l_item_from => k_is)
    (case co_item_from => k_is)
    (case k_item_from => k_is)
    (case a_check_item => k_is)
    (case l_check_item => k_is)
    (case co_check_item => k_is)
    (case k_check_item => k_is)
    (case a_item_text => k_is)
    (case l_item_text => k_is)
    (case co_item_text => k_is)
    (case k_item_text => k_is)
    (case a_parse_item => k_is)
    (case l_parse_item => k_is)
    (case co_parse_item => k_is)
    (case k_parse_item => k_is)
    (case a_law_pot => k_is)
    (case l_law_pot => k_is)
    (case co_law_pot => k_is)
    (case k_law_pot => k_is)
    (case a_law_draw => k_is)
    (case l_law_draw => k_is)
    (case co_law_draw => k_is)
    (case k_law_draw => k_is)
    (case a_law_name => k_is)
    (case l_law_name => k_is)
    (case co_law_name => k_is)
    (case k_law_name => k_is)
    (case a_law_word => k_is)
    (case l_law_word => k_is)
    (case co_law_word => k_is)
    (case k_law_word => k_is)
    (case a_law_path => k_is)
    (case l_law_path => k_is)
    (case co_law_path => k_is)
    (case k_law_path => k_is)
    (case a_law_entry => k_is)
    (case l_law_entry => k_is)
    (case co_law_entry => k_is)
    (case k_law_entry => k_is)
    (case a_law_is_name => k_is)
    (case l_law_is_name => k_is)
    (case co_law_is_name => k_is)
    (case k_law_is_name => k_is)
    (case a_law_is_word => k_is)
    (case l_law_is_word => k_is)
    (case co_law_is_word => k_is)
    (case k_law_is_word => k_is)
    (case a_law_is_whole => k_is)
    (case l_law_is_whole => k_is)
    (case co_law_is_whole => k_is)
    (case k_law_is_whole => k_is)
    (case a_law_is_relink => k_is)
    (case l_law_is_relink => k_is)
    (case co_law_is_relink => k_is)
    (case k_law_is_relink => k_is)
    (case a_law_is_entry => k_is)
    (case l_law_is_entry => k_is)
    (case co_law_is_entry => k_is)
    (case k_law_is_entry => k_is)
    (case a_law_text => k_is)
    (case l_law_text => k_is)
    (case co_law_text => k_is)
    (case k_law_text => k_is)
    (case a_law_number => k_is)
    (case l_law_number => k_is)
    (case co_law_number => k_is)
    (case k_law_number => k_is)
    (case a_law_read => k_is)
    (case l_law_read => k_is)
    (case co_law_read => k_is)
    (case k_law_read => k_is)
    (case a_law_put => k_is)
    (case l_law_put => k_is)
    (case co_law_put => k_is)
    (case k_law_put => k_is)
    (case a_law_words_changed => k_is)
    (case l_law_words_changed => k_is)
    (case co_law_words_changed => k_is)
    (case k_law_words_changed => k_is)
    (case a_law_result => k_is)
    (case l_law_result => k_is)
    (case co_law_result => k_is)
    (case k_law_result => k_is)
    (case a_law_right => k_is)
    (case l_law_right => k_is)
    (case co_law_right => k_is)
    (case k_law_right => k_is)
    (case a_law => k_is)
    (case l_law => k_is)
    (case co_law => k_is)
    (case k_law => k_is)
    (case v_LETTERS => k_is)
    (case v_DIGITS => k_is)
    (case v_LONGEST_NAME => k_is)
    (case v_LONGEST_WORD => k_is)
    (case v_SHORTEST_PATH => k_is)
    (case v_MESSAGE => k_is)
    (case v_BYE => k_is)
    (case v_BITS => k_is)
    (case z_len => k_is)
    (case z_range => k_is)
    (case z_abs => k_is)
    (case z_max => k_is)
    (case z_min => k_is)
    (case z_divmod => k_is)
    (case z_isinstance => k_is)
    (case z_str => k_is)
    (case z_int => k_is)
    (case z_bool => k_is)
    (case z_tuple => k_is)
    (case z_list => k_is)
    (case z_set => k_is)
    (case z_dict => k_is)
    (case z_all => k_is)
    (case z_any => k_is)
    (case z_repr => k_is)
    (case z_sorted => k_is)
    (case z_enumerate => k_is)
    (case z_zip => k_is)
    (case e_InvalidItem => k_is)
    (case S_InvalidItem =>
      refine' My.raw_InvalidItem ?ii ?ov ?sa ?ga ?gg ?ca ?ex ?ob ?hd ?kp ?ty ?ini ?tf ?li ?ci ?ki ?n0
      (case ii => kx_is)
      (case ov => kx_is)
      (case sa => k_is)
      (case ga => k_is)
      (case gg => k_is)
      (case ca => k_is)
      (case ex => k_is)
      (case ob => k_is)
      (case hd => k_is)
      (case kp => k_is)
      (case ty => k_is)
      (case ini => k_is)
      (case tf => k_is)
      (case li => k_is)
      (case ci => k_is)
      (case ki => k_is)
      (case n0 => k_is))
    (case e_InvalidText => k_is)
    (case S_InvalidText =>
      refine' My.raw_InvalidText ?ii ?ov ?sa ?ga ?gg ?ca ?ex ?ob ?hd ?kp ?ty ?ini ?tf ?li ?ci ?ki ?n0
      (case ii => kx_is)
      (case ov => kx_is)
      (case sa => k_is)
      (case ga => k_is)
      (case gg => k_is)
      (case ca => k_is)
      (case ex => k_is)
      (case ob => k_is)
      (case hd => k_is)
      (case kp => k_is)
      (case ty => k_is)
      (case ini => k_is)
      (case tf => k_is)
      (case li => k_is)
      (case ci => k_is)
      (case ki => k_is)
      (case n0 => k_is))
    (case v_CK => k_is)
    (case l_CK => k_is)
    (case q_CK => exact ⟨_, _, rfl, rfl, (by decide), .cons ⟨_, rfl⟩ (.cons ⟨_, rfl⟩ (.cons ⟨_, rfl⟩ (.cons ⟨_, rfl⟩ (.cons ⟨_, rfl⟩ .nil))))⟩)
    (case cg => k_is)
    (case ct => k_is)
    (case cl_T => k_is)
    (case tP_T => k_is)
    (case cl_I => k_is)
    (case tP_I => k_is)
    (case e_InvalidLine => k_is)
    (case cl_L => k_is)
    (case tP_L => k_is)
    (case e_InvalidName => k_is)
    (case cl_N => k_is)
    (case tP_N => k_is)
    (case e_RelinkTreeError => k_is)
    (case cl_R => k_is)
    (case tP_R => k_is)
    (case bP_R => k_is)
    (case s_TR => k_is)
    (case sb_TValueError => k_is)
    (case ne_TI => decide)
    (case s_TI => k_is)
    (case ne_TL => decide)
    (case s_TL => k_is)
    (case ne_TN => decide)
    (case s_TN => k_is)
    (case f_Tvalue => k_is)
    (case zz_ValueError => k_is)

