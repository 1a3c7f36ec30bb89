import PyProof.Rows.All
import Wide.All
import OpenK.AllK
import Wide.FinOn
import HandS.ForMost
import HandS.IsInst
import HandS.Walk
import KE.KExcPX
import KE.KExcInit
import KE.KExcIs
import HandS.ExcInit
import PyProof.ReprLen
import HandS.ForExc
import HandS.ExcField
import HandS.TryMany
import HandS.CallSlots
import HandS.Strs
import HandS.TupAny
import HandS.WrittenGet
import PyProof.ReprHeadsEmpty
import HandS.WideBits
import HandS.DeepEq
import HandS.FStr
import HandS.RaiseMore
import PyProof.StrLawsChain
import KE.IntTextText
import HandS.Style
import PyProof.EqKinds
import PyProof.FactsAll.dict_1
import PyProof.FactsAll.subtypes_4
import PyProof.FactsAll.subtypes_3
import PyProof.FactsAll.str_1
import PyProof.ReprText
import HandS.Defaults
import HandS.CallLocal
import KE.KExcLine
import PySem.Challenge.RW_relinktree_k93_event_texts
set_option Elab.async false
set_option linter.all false
set_option maxRecDepth 100000
set_option maxHeartbeats 4000000
/-! Defs whose promise needs to know that no repr is under way: the layer's def, call and end once more with that premise. -/
namespace Gy
open PySem PySem.Spec PyProof.Rows L2

/-- repr of data at an address -/
theorem repr_dat {X : Cx} (hg : X.A.guards = some []) (hu : X.A.units + 70 < cLine) :
    CallR X (.builtin "repr") (fun xs H Q => ∃ a d, xs = [.ref a] ∧ Dp X.K H (.ref a) d ∧ d.showable = true ∧ d.hasDict = false ∧ d.depth ≤ 60 ∧
      d.shown.length ≤ sizeLine ∧ Q (.str d.shown) H) := by
  intro pins s σ H xs us Q I r h
  obtain ⟨a, d, rfl, hd, h1, h2, h3, h4, q⟩ := h
  obtain ⟨u, rfl, ru⟩ := vals1 r
  obtain ⟨as, rd⟩ := Dp.reads I d _ u hd ru
  cases ru
  refine repr_of_reads' rd h1 (fun z => ?_) hg (by omega) (fun _ _ e => e) (fun h' u tk hk => ?_) h4
  · rw [h2] at z
    cases z
  · exact ⟨.str _, H, I.kept hk, ⟨u, rfl⟩, q⟩

/-- a def's promise, where no repr is under way -/
structure FnG (P : Program) (w : World) (K : PySem.W.Frag) (mg : Str → Option Value) (base : Heap)
    (CX : CXT) (k : Nat) (f : Addr) (fd : FuncData) (ps : List Str) (sp : Sp) : Prop where
  ln : ∀ {vs H Q E}, sp vs H Q E → vs.length = ps.length
  go : ∀ {A outer s H args us vs Q E}, A.guards = some [] → Room k A → Env0 P w K mg base A outer s H →
    BindsTo s fd args (ps.zip us) → Vals vs us → sp vs H Q E → codeAny (model P w) A (.call (.ref f) args) (CR CX outer P w H s Q E) s

section
variable {P : Program} {w : World} {K : PySem.W.Frag} {mg : Str → Option Value} {base : Heap} {CX : CXT} {k : Nat} {f : Addr} {fd : FuncData} {ps N : List Str} {sp : Sp}
theorem FnG.up {j : Nat} (F : FnG P w K mg base CX j f fd ps sp) (h : j ≤ k) : FnG P w K mg base CX k f fd ps sp :=
  ⟨F.ln, fun g hr => F.go g (hr.mono h)⟩
theorem FnG.of (F : FnOk P w K mg base CX k f fd ps sp) : FnG P w K mg base CX k f fd ps sp :=
  ⟨fun h => F.len _ _ _ _ h, fun _ hr e b v h => F.run _ _ _ _ _ _ _ _ _ hr e b v h⟩

theorem fun_g {x qual : Str} {st : Stmt} (F : Fun K x qual st f fd) (S : FnScope N ps (defScope st)) (ln : ∀ {vs H Q E}, sp vs H Q E → vs.length = ps.length)
    (bd : ∀ (cdv : Value) (A : Around) (outer : List Env) (s : Shared) (H : Hp) (vs : List V) (Q : VK) (E : XK), A.guards = some [] →
      Room k (A.deeper (envOfC qual (defScope st) s.heap.objs.size f cdv)) → sp vs H Q E →
      ∃ t, PSs (cxOf CX P w K mg base N qual (defScope st) f cdv A outer s H E) (defBody st) t ∧
        t { nx := fun _ H' => Q .non H', rt := Q } (start N vs) H) :
    FnG P w K mg base CX (k + 1) f fd ps sp := by
  obtain ⟨oc, od, kV, doc, pm, an, cdv, ct, osl, rfl, lk, hcd⟩ := F.ex
  refine ⟨ln, ?_⟩
  intro A outer s H args us vs Q E g hr e0 hb rl hsp
  have stay : ∀ b o, base.get? b = some o → s.heap.get? b = some o := fun b o e => (e0.bs b o e).1
  have kin := e0.mod.kin.keeps stay
  have nol := e0.mod.nolimit.keeps stay
  refine codeAny_call_function hr.depth (kin _ _ lk) rfl S.co S.gen rfl (PySem.W.codeRec_of kin hcd) (hb _ _ _ _ ?_)
  refine wpAny_newFunctionEnv_cells S.kind ?_ ?_
  · rintro ⟨n, v⟩ hy
    refine (S.par n (List.of_mem_zip hy).1).imp id fun q => ⟨q, ?_⟩
    exact PySem.W.cellsFrom_some _ _ _ (.inl q)
  · rintro env rfl s1 x
    refine ⟨nol.keeps x.toInCall.keep, codeAny_func ?_⟩
    obtain ⟨t, ht, hq⟩ := bd cdv A outer s H vs Q E g (hr.deeper _) hsp
    have I := inv_start (CX := CX) (E := E) (outer := outer) S hr.hd e0 (ln hsp) rl x
    refine wpAny_mono (ht.run [] s1 (start N vs) H _ I hq) ?_ (fun _ _ z => z)
    rintro (_ | _ | _ | u) s' z
    all_goals first
      | (obtain ⟨σ', H', J, q⟩ := z
         exact ⟨V.non, H', J.os, J.bare, J.base, J.hok, rfl, q⟩)
      | (obtain ⟨_, _, _, q⟩ := z
         exact q.elim)
      | (obtain ⟨v, σ', H', J, rv, q⟩ := z
         exact ⟨v, H', J.os, J.bare, J.base, J.hok, rv, q⟩)
end
end Gy

namespace Gy
open PySem PySem.Spec PyProof.Rows L2

/-- the readings of the two calls below -/
def tG (sp : Sp) (E : XK) (t : TA) : TE := fun σ H Q => t σ H fun vs H1 => sp vs H1 Q E
def tKw0 (sp : Sp) (gV : List V → List V → List V) (E : XK) (tk : TA) : TE := fun σ H Q => tk σ H fun zs H1 => sp (gV [] zs) H1 Q E
section
variable {X : Cx} {CX : CXT} {k : Nat} {f : Addr} {fd : FuncData} {ps ks : List Str} {sp : Sp} {E : XK} {x : Str} {p pos : Pos} {e : Expr} {es : List Expr} {kws : List Keyword} {t tk : TA}
variable {g : List Value → List Value → List Value} {gV : List V → List V → List V}
/-- f(e, ..) of a def that wants to know of repr -/
theorem pe_callG (F : FnG X.prog X.w X.K X.mg X.base CX k f fd ps sp) (gd : X.A.guards = some []) (hr : Room k X.A) (hg : Gl X x)
    (hm : X.mg x = some (.ref f)) (hk : PySem.W.keepIn X.K (.ref f) = true) (hb : Binds X.K fd ps []) (hx : Passes CX X E) (ha : PA X (e :: es) t)
    (hdb : (x == ("__debug__" : Str)) = false := by decide) (he : starEach (e :: es) X.env = (false, eval e X.env) :: starEach es X.env := by rfl)
    (hpl : (backTo pos (starEach es X.env)).any (·.1) = false := by rfl) :
    PE X (.Call (.Name x p) (e :: es) [] pos) (tG sp E t) := by
  constructor
  intro pins s σ H Q I h
  refine wpAny_Call_Name_kw (ld_glob I hg hm ?_ hdb)
  refine PySem.W.callWith_K (h₀ := X.base) I.ok.mod.kin hk (thn (ha.run pos pins s σ H _ I h) ?_) he hpl
  rintro us s1 ⟨vs, H1, I1, r, q⟩
  refine ⟨I1.kIn, wpAny_call (codeAny_mono (F.go (args := ⟨us, []⟩) gd hr I1.env0 ?_ r q) ?_)⟩
  · have b := hb s1 us I1.kIn (by rw [List.append_nil, ← r.length]; exact F.ln q)
    rwa [List.append_nil] at b
  · rintro (er | (_ | _ | _ | u)) s' z
    · exact hx pins σ H1 s1 er s' I1 z
    · exact z.elim
    · exact z.elim
    · exact z.elim
    · exact I1.after z
/-- f(k = v, ..), nothing by position -/
theorem pe_kw0 (F : FnOk X.prog X.w X.K X.mg X.base CX k f fd ps sp) (hr : Room k X.A) (hg : Gl X x) (hm : X.mg x = some (.ref f))
    (hk : PySem.W.keepIn X.K (.ref f) = true) (hb : KBinds X.K fd ps ks g gV) (hx : Passes CX X E) (hkw : PK X kws tk)
    (hall : (backToKw pos (keywordEach kws X.env)).all (·.1.isSome) = true := by rfl) (hks : (backToKw pos (keywordEach kws X.env)).filterMap (·.1) = ks := by rfl)
    (hdb : (x == ("__debug__" : Str)) = false := by decide)
    (hpl : ((backTo pos (starEach [] X.env)).any (·.1) || (backToKw pos (keywordEach kws X.env)).any (·.1.isNone)) = false := by rfl) :
    PE X (.Call (.Name x p) [] kws pos) (tKw0 sp gV E tk) := by
  constructor
  intro pins s σ H Q I h
  refine wpAny_Call_Name_kw (ld_glob I hg hm ?_ hdb)
  refine PySem.W.callWith_KW0 (h₀ := X.base) I.ok.mod.kin hk hall (thn (hkw.run pos pins s σ H _ I h) ?_) hpl
  rintro ws s2 ⟨zs, H2, I2, rz, q2⟩
  rw [hks]
  exact ⟨I2.kIn, run_fnk (us := []) F hr hb hx I2 .nil rz q2⟩
end

/-- the law's call, its def a FnG -/
theorem end_g {P : Program} {w : World} {K : PySem.W.Frag} {mg mb : Str → Option Value} {CX : CXT} {k : Nat} {fa a : Addr} {fd : FuncData} {x : Str} {sp : Sp}
    {s : Shared} {vs : List Value} {ns : List Int} (kin : K.In s.heap) (hns : s.heap.Ns mainGlobals mg) (hb : s.heap.Ns builtinsNs mb)
    (hbb : ∀ x : Str, x ≠ "__name__" → mb x = bootBuiltins x) (nol : s.heap.NoLimit) (hg : s.gens = #[])
    (ha : s.heap.get? a = some { cls := .type "list", data := .seq vs.toArray }) (hi : IntsAre vs ns) (hl : ns.length ≤ sizeLine) (hr : Room k callerA)
    (F : ∀ base : Heap, K.In base → base.Ns mainGlobals mg → FnG P w K mg base CX k fa fd [x] sp)
    (bnd : ∀ (s : Shared) (u : Value), BindsTo s fd ⟨[u], []⟩ [(x, u)])
    (hsp : ∀ H : Hp, Only H → SqL K H a (ns.map V.int) → sp [.ref a] H (fun v _ => v = .bl true) fun _ _ _ => False)
    (hCX : ∀ H e s', CX [] H s (fun _ _ _ => False) e s' → False) :
    codeAny (model P w) callerA (.call (.ref fa) ⟨[.ref a], []⟩)
      (fun r s' => r = .ok (.ret (.bool true)) ∧ OldK s.heap s'.heap ∧ s'.os = s.os ∧ AllBare s'.gens) s := by
  have main : ∀ H : Hp, Only H → SqL K H a (ns.map V.int) → HOk P w H s.heap → (∀ b, H b ≠ none → b = a) → (H a ≠ none → K.lookup a = none) →
      codeAny (model P w) callerA (.call (.ref fa) ⟨[.ref a], []⟩)
        (fun r s' => r = .ok (.ret (.bool true)) ∧ OldK s.heap s'.heap ∧ s'.os = s.os ∧ AllBare s'.gens) s := by
    intro H only seq hok alone notK
    have noD : ∀ {b o es ep}, s.heap.get? b = some o → o.data = .dict es ep → H b = none := by
      intro b o es ep e d
      cases q : H b with
      | none => rfl
      | some u =>
        obtain rfl := alone b (by rw [q]; exact fun z => nomatch z)
        rw [ha] at e
        cases e
        exact nomatch d
    have nsB : ∀ {b m}, s.heap.Ns b m → (hidT s.heap H).Ns b m := by
      rintro b m ⟨o, es, ep, e, d, r⟩
      exact ⟨o, es, ep, hidT_get e (noD e d), d, r⟩
    have kB : K.In (hidT s.heap H) := by
      intro b o e
      refine hidT_get (kin b o e) ?_
      cases q : H b with
      | none => rfl
      | some u =>
        obtain rfl := alone b (by rw [q]; exact fun z => nomatch z)
        rw [notK (by rw [q]; exact fun z => nomatch z)] at e
        cases e
    obtain ⟨mc, l1, l2⟩ := nol
    have e0 : Env0 P w K mg (hidT s.heap H) callerA [] s H := by
      refine ⟨rfl, ⟨kB, nsB hns, ⟨mb, nsB hb, hbb⟩, ⟨mc, nsB l1, l2⟩⟩, fun b o e => of_hidT e, Nat.le_of_eq (hidT_size _ _), trivial, ?_, hok, .of_eq hg⟩
      intro b z
      exact nomatch (show b ∈ ([] : List Addr) from z)
    have run := (F _ kB (nsB hns)).go (A := callerA) (args := ⟨[.ref a], []⟩) (us := [.ref a]) (vs := [V.ref a]) rfl hr e0 (bnd s (.ref a)) (.cons rfl .nil) (hsp H only seq)
    refine codeAny_mono run ?_
    rintro (er | (_ | _ | _ | u)) s' z
    · exact (hCX H er s' z).elim
    · exact z.elim
    · exact z.elim
    · exact z.elim
    · obtain ⟨v, H', os, bare, un, hok', rv, q⟩ := z
      cases (show v = .bl true from q)
      cases (show u = Value.bool true from rv)
      refine ⟨rfl, OldK.of_keep fun b o e => ?_, os, bare⟩
      rcases only b with n | ⟨ob, xs, y⟩
      · exact un.keep b o e n (fun z => nomatch (show b ∈ ([] : List Addr) from z)) (fun z => nomatch z)
      · obtain ⟨e1, _⟩ := hok b _ y
        obtain ⟨e2, _⟩ := hok' b _ (un.frzs b ob _ y)
        rw [e] at e1
        cases e1
        exact e2
  have rv := vals_ints hi
  cases hk : K.lookup a with
  | some o =>
    have e := kin a o hk
    rw [ha] at e
    cases e
    refine main (fun _ => none) (fun _ => .inl rfl) (.inr ⟨_, vs.toArray, _, hk, rfl, rfl, rfl, ?_, rv⟩) (fun b u z => nomatch z) (fun b z => absurd rfl z) (fun z => absurd rfl z)
    rw [List.size_toArray, hi.length]
    exact hl
  | none =>
    let ob : Obj := { cls := .type "list", data := .seq vs.toArray }
    refine main (fun b => if b = a then some (.frz ob (.lst (ns.map V.int))) else none) (fun b => ?_) (.inl (.inr ⟨ob, if_pos rfl⟩)) (fun b u z => ?_) (fun b z => ?_) (fun _ => hk)
    · by_cases q : b = a
      · exact .inr ⟨_, _, if_pos q⟩
      · exact .inl (if_neg q)
    · by_cases q : b = a
      · have y := (if_pos q).symm.trans z
        cases y
        subst q
        exact ⟨ha, by rw [List.length_map]; exact hl, vs, _, rv, ha⟩
      · have y := (if_neg q).symm.trans z
        cases y
    · by_cases q : b = a
      · exact q
      · exact absurd (if_neg q) z

/-- what k_head leaves, from a law that is a FnG -/
theorem walk_g {l : PySem.W.OpenLaw} {n k : Nat} {q : Program} {loose : List Str} {XP : (Str → Option Value) → Heap → Prop} {YP : World → Heap → Prop} {d : DefRec}
    {K : Params → PySem.W.Frag} {sp : PySem.W.Frag → Sp} {x : Str} (hn : l.most = some n) (hn2 : n ≤ sizeLine) (hdf : d.params.defaults = []) (hr : Room k callerA)
    (hY : ∀ (w : World) (h : Heap), YP w h → (K w.params).In h)
    (F : ∀ (w : World) (mg : Str → Option Value) (fa : Addr) (h : Heap), (K w.params).In h → h.Ns mainGlobals mg → mg d.name = some (.ref fa) →
      ∃ fd : FuncData, (∀ (s : Shared) (u : Value), BindsTo s fd ⟨[u], []⟩ [(x, u)]) ∧
        ∀ base : Heap, (K w.params).In base → base.Ns mainGlobals mg → FnG l.prog w (K w.params) mg base CX0 k fa fd [x] (sp (K w.params)))
    (hsp : ∀ (K : PySem.W.Frag) (H : Hp) (a : Addr) (ns : List Int), ns.length ≤ n → SqL K H a (ns.map V.int) → sp K [.ref a] H (fun v _ => v = .bl true) fun _ _ _ => False) :
    PySem.W.WalkO q loose XP YP l.row.toRowW d [] (fun f vs => PySem.call f vs) := by
  refine Att.attach_call hn hdf ?_
  intro w s₀ s₁ mg mb fa o pm cd doc a vs ns G Y ho hd hcd hmg hobj hints hlen hg
  have kin := hY w _ Y
  obtain ⟨fd, hb, hF⟩ := F w mg fa _ kin G.T.g hmg
  exact end_g kin G.T.g G.T.b G.T.builtins G.T.nolimit hg hobj hints (Nat.le_trans hlen hn2) hr hF hb (fun H _ hS => hsp _ H a ns hlen hS) (fun _ _ _ z => z)
end Gy

/-! An own exception class called with keywords: BaseException.__new__ takes them and forgets them, the own __init__ gets them. -/
namespace PySem
namespace Xg
open Builtin Builtin.ObjectAttr
section
variable {M : Model} {A : Around} {E : Value → Shared → Prop} {h : Heap} {g : Array GenState} {d : Drawn} {t : Nat} {os : OsState}
variable {nm q : Str} {C N : Addr} {bs bm bmB : List Value} {hdct : Bool} {sn : List Str} {sub : List Value} {ab : Bool} {col : Option Bool} {dd : Option Addr} {k0 k1 k2 k3 k5 : Option Value} {B newId initId : String}
theorem kw_check (F : ExcBaseFacts B newId initId bmB) (hT : ∀ X : String, bm.contains (.type X) = bmB.contains (.type X)) {us : List Value} {kw : List (Str × Value)} {Q : Unit → Shared → Prop}
    (cl : h.get? C = some (excClassObj nm q C N bs bm hdct sn sub ab col dd k0 k1 k2 k3 k5 newId)) (z : Q () ⟨h, g, d, t, os⟩) :
    wpAny M A (checkBuiltinCall newId ⟨.ref C :: us, kw⟩) Q E ⟨h, g, d, t, os⟩ := by
  have has : (Value.ref C :: bm).contains (.type B) = true := by
    rw [List.contains_cons, hT, F.hasB, Bool.or_true]
  have star := F.noStar
  simp only [checkBuiltinCall, F.newKind, F.newSplit, F.newRow]
  repeat (first
    | refine wpAny_loadPart_at cl ?_
    | (refine wpAny_isSubtype_exc cl ?_; rw [has])
    | refine wpAny_staticBase_exc cl ?_
    | refine wpAny_madeBy_exc cl ?_
    | simp only [bne_self_eq_false, Bool.false_eq_true, if_false]
    | wp_step)
  exact z
end
section
variable {prog : Program} {w : World} {A : Around} {E : Value → Shared → Prop} {R : Result → Shared → Prop} {h : Heap} {g : Array GenState} {d : Drawn} {t : Nat} {os : OsState}
variable {nm q : Str} {C N : Addr} {bs bm bmB : List Value} {hdct : Bool} {sn : List Str} {sub : List Value} {ab : Bool} {col : Option Bool} {dd : Option Addr} {k0 k1 k2 k3 k5 : Option Value} {B newId initId : String}
theorem kw_new (F : ExcBaseFacts B newId initId bmB) (hT : ∀ X : String, bm.contains (.type X) = bmB.contains (.type X)) {us : List Value} {kw : List (Str × Value)}
    (cl : h.get? C = some (excClassObj nm q C N bs bm hdct sn sub ab col dd k0 k1 k2 k3 k5 newId))
    (z : R (.ok (.ret (.ref (h.objs.size + 1)))) ⟨(h.push (W.kdv_tup us)).push (PX.excO C h.objs.size), g, d, t, os⟩) (len : us.length ≤ sizeLine) :
    codeAny (model prog w) A (.builtin newId ⟨.ref C :: us, kw⟩) R ⟨h, g, d, t, os⟩ := by
  have ends := F.ends
  have hB : (Value.ref C :: bm).contains (.type B) = true := by
    rw [List.contains_cons, hT, F.hasB, Bool.or_true]
  have hA : (Value.ref C :: bm).contains (.type "AttributeError") = false := by
    rw [List.contains_cons, hT, F.noAttr]
    rfl
  have hN : (Value.ref C :: bm).contains (.type "NameError") = false := by
    rw [List.contains_cons, hT, F.noName]
    rfl
  refine codeAny_builtinAt F.entry ?_
  unfold Builtin.«BaseException.__new__»
  refine wpAt_bind ?_
  show wpAt _ _ _ (stack >>= _) _ _ _
  refine wpAt_bind (wpAt_stack fun p below => wpAt_of_wpAny ?_)
  wp_walk
  refine wpAt_of_wpAny ?_
  rw [F.owner]
  repeat (first
    | with_reducible refine wpAny_madeHere_exc F.canon cl ?_
    | with_reducible refine wpAny_loadPart_at cl ?_
    | (with_reducible refine wpAny_isSubtype_exc cl ?_; first | rw [hB] | rw [hA] | rw [hN])
    | wp_step)
  show R _ _
  rw [Heap.size_push]
  exact z
theorem kw_type (F : ExcBaseFacts B newId initId bmB) (hT : ∀ X : String, bm.contains (.type X) = bmB.contains (.type X)) {us : List Value} {kw : List (Str × Value)} {fI : Addr} {Q : Fin → Shared → Prop}
    (cl : h.get? C = some (excClassObj nm q C N bs bm hdct sn sub ab col dd k0 k1 k2 k3 k5 newId))
    (hi : W.Looks (model prog w) h (typeLookup (.ref C) "__init__") (some (.ref fI))) (hb : ∀ self, W.Looks (model prog w) h (bindSpecial (.ref fI) self) (.ref fI, [self]))
    (len : us.length ≤ sizeLine)
    (z : codeAny (model prog w) A (.call (.ref fI) ⟨.ref (h.objs.size + 1) :: us, kw⟩)
      (fun r s' => match r with | .ok (.ret v) => v = .none ∧ Q (.done (.ret (.ref (h.objs.size + 1)))) s' | .ok _ => False | .error e => E e s')
      ⟨(h.push (W.kdv_tup us)).push (PX.excO C h.objs.size), g, d, t, os⟩) :
    wpAny (model prog w) A (Builtin.«type.__call__» ⟨.ref C :: us, kw⟩) Q E ⟨h, g, d, t, os⟩ := by
  repeat (first
    | with_reducible refine wpAny_loadPart_at cl ?_
    | with_reducible refine wpAny_madeBy_exc cl ?_
    | wp_step)
  refine codeAny_call_builtin_code (Code.quiet_builtin _ F.quiet) (kw_check F hT cl ?_)
  refine kw_new F hT cl ?_ len
  show wpAny _ _ _ _ _ _
  have keep : ∀ b o, h.get? b = some o → ((h.push (W.kdv_tup us)).push (PX.excO C h.objs.size)).get? b = some o := fun b o e =>
    Heap.get?_push_of_some _ (Heap.get?_push_of_some _ e)
  have cl1 := keep _ _ cl
  have new : ((h.push (W.kdv_tup us)).push (PX.excO C h.objs.size)).get? (h.objs.size + 1) = some (PX.excO C h.objs.size) := by heap_get
  have self : (Value.ref C :: bm).contains (.ref C) = true := by simp
  have i1 := hi.keeps keep
  have b1 := (hb (.ref (h.objs.size + 1))).keeps keep
  unfold isInstance
  repeat (first
    | with_reducible refine wpAny_loadPart_at new ?_
    | (with_reducible refine wpAny_isSubtype_exc cl1 ?_; rw [self])
    | wp_step)
  show wpAny _ _ (typeLookup (.ref C) _) _ _ _
  refine i1.at ?_
  refine wpAny_holding (wpAny_bind (b1.at ?_))
  refine wpAny_bind (wpAny_call (codeAny_mono z fun r s' y => ?_))
  rcases r with e | (v | _ | _ | _) <;> first | exact y | exact y.elim | skip
  obtain ⟨rfl, y⟩ := y
  first
    | exact wpAny_pure (wpAny_pure y)
    | (wp_walk; exact y)
theorem kw_call (F : ExcBaseFacts B newId initId bmB) (hT : ∀ X : String, bm.contains (.type X) = bmB.contains (.type X)) {us : List Value} {kw : List (Str × Value)} {fI : Addr}
    (cl : h.get? C = some (excClassObj nm q C N bs bm hdct sn sub ab col dd k0 k1 k2 k3 k5 newId))
    (hi : W.Looks (model prog w) h (typeLookup (.ref C) "__init__") (some (.ref fI))) (hb : ∀ self, W.Looks (model prog w) h (bindSpecial (.ref fI) self) (.ref fI, [self]))
    (len : us.length ≤ sizeLine)
    (z : codeAny (model prog w) (A.under (.builtin "type.__call__" ⟨.ref C :: us, kw⟩)) (.call (.ref fI) ⟨.ref (h.objs.size + 1) :: us, kw⟩) (W.InitBack (h.objs.size + 1) R)
      ⟨(h.push (W.kdv_tup us)).push (PX.excO C h.objs.size), g, d, t, os⟩) :
    codeAny (model prog w) A (.call (.ref C) ⟨us, kw⟩) R ⟨h, g, d, t, os⟩ := by
  have f1 := tc_lookup
  have f2 := tc_bind (.ref C)
  have ty : (⟨h, g, d, t, os⟩ : Shared).TypeIs (.ref C) "type" := ⟨_, cl, rfl⟩
  refine codeAny_of_tree ?_
  show wpAny _ _ (callAny (.ref C) _) _ _ _
  repeat (any_goals (first | assumption | with_reducible refine wpAny_loadPart_at cl ?_ | wp_step))
  refine ⟨rfl, ?_⟩
  refine codeAny_call_builtin_at (Code.quiet_builtin _ (by decide +kernel)) entry_typeCall (wpAny_check_type_call_sub cl (kw_type F hT cl hi hb len ?_))
  refine codeAny_mono z fun r s' y => ?_
  rcases r with e | (v | _ | _ | _) <;> exact y
end
end Xg
end PySem

/-! Own exception classes over any built-in base, made as values: by position, by name; their fields stored and read; isinstance. -/
namespace PySem
namespace Xg
open PySem.W PySem.Calls PyProof.Rows Builtin Builtin.ObjectAttr
section
variable {prog : Program} {w : World} {A : Around} {R : Result → Shared → Prop} {hp : Heap} {g : Array GenState} {d : Drawn} {t : Nat} {os : OsState} {K : Frag} {B : String} {bmB : List Value}
/-- the first field: the dict is made -/
theorem osa_first (SF : StoreFacts B bmB "object.__setattr__" "object") {name : Str} {tk : Tok} {v : Value} {x C t1 : Addr} (kin : K.In hp)
    (at_ : hp.get? x = some (PX.excO C t1)) (ov : excOver K C bmB = true) (no : takerIn K C name = some none) (hh : hasDictIn K C = true)
    (z : ∀ h' tk' dx, (∀ b o, b ≠ x → hp.get? b = some o → h'.get? b = some o) → hp.objs.size ≤ dx → dx ≠ x →
      h'.get? x = some { PX.excO C t1 with dict := some dx } → h'.Ns1 dx (fun y => if y = name then some v else none) → R (.ok (.ret .none)) ⟨h', g, d, tk', os⟩) :
    codeAny (model prog w) A (.call (.builtin "object.__setattr__") ⟨[.ref x, .str name tk, v], []⟩) R ⟨hp, g, d, t, os⟩ := by
  obtain ⟨cd, hc, hd'⟩ := any_some hh
  have lt := Heap.lt_size at_
  refine osa_openX (od := none) (s := ⟨hp, g, d, t, os⟩) SF kin ⟨at_, rfl, rfl, trivial⟩ ov no fun b => ?_
  refine wpAny_bind (wpAny_pure (wpAny_bind (instanceDict_exc (s := ⟨hp, g, d, t, os⟩) (c2 := .none) at_ (looks_clsIn kin hc) hd' ?_)))
  show wpAny _ _ (storeInDict hp.objs.size (.str name tk) name v) _ _ _
  refine HandSPX.store_in_new ?_ fun h' tk' hn hs => ?_
  · exact ⟨_, #[], _, (Heap.get?_update_ne _ _ _ _ (Nat.ne_of_gt lt)).trans (Heap.get?_push_at rfl rfl), rfl, fun e he => absurd he (by simp), fun _ => rfl⟩
  · refine z h' tk' hp.objs.size (fun b o nb e => ?_) (Nat.le_refl _) (Nat.ne_of_gt lt) ?_ hn
    · rw [hs.2 b (Nat.ne_of_lt (Heap.lt_size e)), Heap.get?_update_ne _ _ _ _ nb]
      exact Heap.get?_push_of_some _ e
    · rw [hs.2 x (Nat.ne_of_lt lt)]
      exact Heap.get?_update_self _ (Heap.get?_push_of_some _ at_) rfl
/-- a further field -/
theorem osa_next (SF : StoreFacts B bmB "object.__setattr__" "object") {name : Str} {tk : Tok} {v : Value} {x C t1 dx : Addr} {m0 : Str → Option Value} {nl : List Str} (kin : K.In hp)
    (at_ : hp.get? x = some { PX.excO C t1 with dict := some dx }) (ns : hp.Ns1 dx m0) (wi : Within m0 nl) (few : nl.length ≤ 1000)
    (ov : excOver K C bmB = true) (no : takerIn K C name = some none) (hh : hasDictIn K C = true)
    (z : ∀ h' tk', (∀ b o, b ≠ dx → hp.get? b = some o → h'.get? b = some o) → h'.Ns1 dx (fun y => if y = name then some v else m0 y) → R (.ok (.ret .none)) ⟨h', g, d, tk', os⟩) :
    codeAny (model prog w) A (.call (.builtin "object.__setattr__") ⟨[.ref x, .str name tk, v], []⟩) R ⟨hp, g, d, t, os⟩ := by
  obtain ⟨cd, hc, hd'⟩ := any_some hh
  obtain ⟨oD, _, _, gD, _, _⟩ := ns.count wi
  refine osa_openX (od := some oD) (s := ⟨hp, g, d, t, os⟩) SF kin ⟨at_, rfl, rfl, gD⟩ ov no fun b => ?_
  refine wpAny_bind (wpAny_pure (wpAny_bind (wpAny_bind (wpAny_loadPart at_ (wpAny_bind ((looks_clsIn kin hc).here ?_))))))
  rw [hd']
  refine wpAny_pure (a := some dx) ?_
  exact OEX.store_in_old ns wi few fun h' tk' hn hs => z h' tk' (fun b o nb e => (hs.2 b nb).trans e) hn
end
end Xg
end PySem

namespace Xl
open PySem PySem.Spec PyProof.Rows L2 Gy
/-- what the written part says of an own exception class at C -/
structure XCl (K : PySem.W.Frag) (C : Addr) : Prop where
  base : ∃ B newId initId bmB, ExcBaseFacts B newId initId bmB ∧ StoreFacts B bmB "object.__setattr__" "object" ∧ PySem.W.excInitIn K C bmB newId = true ∧ PySem.W.excOver K C bmB = true
  sa : PySem.W.findIn K (.ref C) "__setattr__" = some (some (.builtin "object.__setattr__"))
  ga : PySem.W.findIn K (.ref C) "__getattribute__" = some (some (.builtin "BaseException.__getattribute__"))
  gg : PySem.W.findIn K (.ref C) "__getattr__" = some none
  ca : PySem.W.findIn K (.ref C) "__class__" = some (some (.builtin "object.__class__"))
  ex : PySem.W.subIn K (.ref C) (.type "BaseException") = some true
  ob : PySem.W.mroIn K C (.type "object") = some true
  hd : PySem.W.hasDictIn K C = true
  kp : PySem.W.keepIn K (.ref C) = true
/-- its __init__ stands at fI -/
structure XIn (K : PySem.W.Frag) (C fI : Addr) : Prop extends XCl K C where
  ini : PySem.W.findIn K (.ref C) "__init__" = some (some (.ref fI))
  tf : PySem.W.typeIn K (.ref fI) = some (.type "function")
section
variable {X : Cx} {pins : List (Addr × Obj)} {σ : L2.St} {H : Hp} {s : Shared} {a C dx : Addr} {f : Str} {y : V} {u : Value} {fs : List (Str × V)} {Q : Unit → Shared → Prop} {E : Value → Shared → Prop} {A : Around}
theorem set_new (T : XCl X.K C) (I : Inv X pins σ H s) (e : H a = some (exo a C none)) (no : PySem.W.findIn X.K (.ref C) f = some none) (ry : RelV y u)
    (z : ∀ dx s', H dx = none → dx ≠ a → Inv X pins σ (upd (upd H dx (exd dx [(f, y)])) a (exo a C (some dx))) s' → Q () s') :
    wpAny (model X.prog X.w) A (setAttr (.ref a) f u) Q E s := by
  obtain ⟨B, nI, iI, bmB, _, SF, _, ov⟩ := T.base
  obtain ⟨t1, at_⟩ := exo_at I.hok e
  obtain ⟨hp, g, d, t, os⟩ := s
  have tk : PySem.W.takerIn X.K C f = some none := by
    unfold PySem.W.takerIn
    rw [no]
    rfl
  refine PySem.W.set_plain I.kIn (od := none) ⟨at_, rfl, rfl, trivial⟩ T.sa ?_
  refine PySem.Xg.osa_first SF I.kIn at_ ov tk T.hd ?_
  intro h' tk' dx keep big ne atX ns
  have free : H dx = none := I.hok.fresh big
  have old : ∀ {b o}, hp.get? b = some o → b ≠ dx := fun q => Nat.ne_of_lt (Nat.lt_of_lt_of_le (Heap.lt_size q) big)
  have noA : ∀ {b}, H b = none → b ≠ a := fun {b} n y => by
    rw [y, e] at n
    cases n
  have other : ∀ {b o}, H b = some o → o ≠ exo a C none → upd (upd H dx (exd dx [(f, y)])) a (exo a C (some dx)) b = some o := by
    intro b o q ne'
    have nb : b ≠ a := fun y => by
      rw [y, e] at q
      exact ne' (Option.some.inj q).symm
    rw [upd_ne nb, upd_ne (ne_of_none q free)]
    exact q
  have U : Un X.fs [] H (upd (upd H dx (exd dx [(f, y)])) a (exo a C (some dx))) hp h' := by
    refine ⟨fun b o q n _ _ => keep b o (noA n) q, fun b o q n _ _ => ⟨o.slots, keep b o (noA n) q⟩, fun b o q n _ => ?_, fun b o q _ => ?_, fun b xs q => ?_, fun b o v q => ?_, fun b ps q => ⟨#[], ?_⟩⟩
    · rw [upd_ne (noA n), upd_ne (old q)]
      exact n
    · by_cases nb : b = a
      · exact ⟨_, by rw [nb]; exact atX⟩
      · exact ⟨o, keep b o nb q⟩
    · exact other q (fun y => exo_tup y.symm)
    · exact other q (fun y => exo_frz y.symm)
    · rw [other q (fun y => exo_tbl y.symm)]
      simp
  refine z dx _ free ne (I.un (t' := tk') U ?_)
  intro b o q
  by_cases nb : b = a
  · subst nb
    rw [upd_same] at q
    cases q
    exact exo_ok atX
  · rw [upd_ne nb] at q
    by_cases nd : b = dx
    · subst nd
      rw [upd_same] at q
      cases q
      exact exd_ok ns (relO_put (fs := []) ry fun _ => True.intro)
    · rw [upd_ne nd] at q
      refine (I.hok b o q).stay (fun c v hc y => keep c v ?_ y) (fun c hc => other hc (fun y => exo_own y.symm)) (fun c xs hc => other hc (fun y => exo_tup y.symm))
      rcases hc with hc | hc
      · rw [hc]
        exact nb
      · exact at_ne e hc exo_own
theorem set_more (T : XCl X.K C) (I : Inv X pins σ H s) (e : H a = some (exo a C (some dx))) (ed : H dx = some (exd dx fs)) (few : fs.length ≤ 900) (no : PySem.W.findIn X.K (.ref C) f = some none) (ry : RelV y u)
    (z : ∀ s', Inv X pins σ (upd H dx (exd dx ((f, y) :: fs))) s' → Q () s') : wpAny (model X.prog X.w) A (setAttr (.ref a) f u) Q E s := by
  obtain ⟨B, nI, iI, bmB, _, SF, _, ov⟩ := T.base
  obtain ⟨t1, at_⟩ := exo_at I.hok e
  obtain ⟨mA, ns, rel⟩ := exd_at I.hok ed
  have wi := within_of rel
  obtain ⟨hp, g, d, t, os⟩ := s
  obtain ⟨oD, _, _, gD, _, _⟩ := ns.count wi
  have tk : PySem.W.takerIn X.K C f = some none := by
    unfold PySem.W.takerIn
    rw [no]
    rfl
  refine PySem.W.set_plain I.kIn (od := some oD) ⟨at_, rfl, rfl, gD⟩ T.sa ?_
  refine PySem.Xg.osa_next SF I.kIn at_ ns wi (by rw [List.length_map]; omega) ov tk T.hd ?_
  intro h' tk' keep hn
  have there : ∃ o, h'.get? dx = some o := by
    obtain ⟨o, _, _, q, _⟩ := hn
    exact ⟨o, q⟩
  exact z _ (I.write (t' := tk') (x := dx) (e := dx) (o := exd dx ((f, y) :: fs)) (by rw [ed]; trivial) (.inl rfl) keep there (exd_ok hn (relO_put ry rel)))
end
/-! ### readings and rules -/
/-- self.f = e in such an __init__ -/
def tXs (K : PySem.W.Frag) (f : Str) (to te : TE) : TS := fun D σ H => te σ H fun y H1 => to σ H1 fun x H2 => ∃ a C : Addr, x = .ref a ∧ XCl K C ∧ PySem.W.findIn K (.ref C) f = some none ∧
  ((H2 a = some (exo a C none) ∧ ∀ dx, H2 dx = none → dx ≠ a → D.nx σ (upd (upd H2 dx (exd dx [(f, y)])) a (exo a C (some dx)))) ∨
    ∃ (dx : Addr) (fs : List (Str × V)), H2 a = some (exo a C (some dx)) ∧ H2 dx = some (exd dx fs) ∧ fs.length ≤ 900 ∧ D.nx σ (upd H2 dx (exd dx ((f, y) :: fs))))
/-- C(..): the object made, then __init__ -/
def tXm (C : Addr) (sp : Sp) (gV : List V → List V → List V) (t tk : TA) : TE := fun σ H Q => t σ H fun vs H0 => tk σ H0 fun zs H1 => vs.length ≤ 1000 ∧ ∀ a, H1 a = none →
  sp (.ref a :: gV vs zs) (upd H1 a (exo a C none)) (fun v H2 => v = .non ∧ Q (.ref a) H2) (fun _ _ _ => False)
section
variable {X : Cx} {o e : Expr} {es : List Expr} {kws : List Keyword} {to te : TE} {t tk : TA} {f : Str} {p p' pos : Pos}
theorem ps_xs (ho : PE X o to) (he : PE X e te) (hs : swapsWith e (some (.Attribute o f p')) pos.line X.env = pure false := by rfl) : PS X (.Assign [.Attribute o f p'] e pos) (tXs X.K f to te) := by
  constructor
  intro pins s σ H D I h
  refine plainObj_wpAny_Assign_Attribute (thn (he.run pins s σ H _ I h) ?_) hs
  rintro v s1 ⟨y, H1, I1, r1, q1⟩
  refine thn (ho.run pins s1 σ H1 _ I1 q1) ?_
  rintro u s2 ⟨x, H2, I2, r2, a, C, rfl, T, no, q⟩
  cases r2
  rcases q with ⟨ea, q⟩ | ⟨dx, fs, ea, ed, few, q⟩
  · exact set_new T I2 ea no r1 fun dx s' n ne J => ⟨σ, _, J, q dx n ne⟩
  · exact set_more T I2 ea ed few no r1 fun s' J => ⟨σ, _, J, q⟩
/-- how positional values and keywords come to __init__'s parameters -/
structure XB (K : PySem.W.Frag) (fd : FuncData) (ps ks : List Str) (g : List Value → List Value → List Value) (gV : List V → List V → List V) : Prop where
  to : ∀ (s : Shared) (b : Value) (us ws : List Value), K.In s.heap → (b :: g us ws).length = ps.length → BindsTo s fd ⟨b :: us, ks.zip ws⟩ (ps.zip (b :: g us ws))
  rel : ∀ {vs : List V} {us : List Value} {zs : List V} {ws : List Value}, Vals vs us → Vals zs ws → Vals (gV vs zs) (g us ws)
variable {CX : CXT} {C fI : Addr} {k : Nat} {fd : FuncData} {ps ks : List Str} {sp : Sp} {g : List Value → List Value → List Value} {gV : List V → List V → List V} {x : Str}
theorem run_x {pins : List (Addr × Obj)} {σ : L2.St} {H : Hp} {s : Shared} {Q : VK} {us ws : List Value} {vs zs : List V} (T : XIn X.K C fI) (F : FnOk X.prog X.w X.K X.mg X.base CX k fI fd ps sp) (hr : Room (k + 1) X.A)
    (hb : XB X.K fd ps ks g gV) (hx : Passes CX X (fun _ _ _ => False)) (I : Inv X pins σ H s) (r : Vals vs us) (rz : Vals zs ws) (len : vs.length ≤ 1000)
    (h : ∀ a, H a = none → sp (.ref a :: gV vs zs) (upd H a (exo a C none)) (fun v H2 => v = .non ∧ Q (.ref a) H2) (fun _ _ _ => False)) :
    wpAny (model X.prog X.w) X.A (call (.ref C) us (ks.zip ws)) (EP X pins σ Q) X.xe s := by
  obtain ⟨B, nI, iI, bmB, BF, _, ii, _⟩ := T.base
  obtain ⟨nm, N', qn, bs, bm, hdct, sn, sub, ab, col, dd, k0, k1, k2, k3, k5, cl, hT⟩ := PySem.W.excInit_of I.kIn ii
  obtain ⟨hp, g', dr, tk', os⟩ := s
  have big : hp.objs.size ≤ hp.objs.size + 1 := Nat.le_succ _
  have hq := h (hp.objs.size + 1) (I.hok.fresh big)
  have keep : ∀ b o, hp.get? b = some o → ((hp.push (PySem.W.kdv_tup us)).push (PySem.PX.excO C hp.objs.size)).get? b = some o := fun b o e =>
    Heap.get?_push_of_some _ (Heap.get?_push_of_some _ e)
  have new : ((hp.push (PySem.W.kdv_tup us)).push (PySem.PX.excO C hp.objs.size)).get? (hp.objs.size + 1) = some (PySem.PX.excO C hp.objs.size) := by heap_get
  have I2 := I.laid (t' := tk') (a := hp.objs.size + 1) (o := exo (hp.objs.size + 1) C none) keep big (exo_ok new)
  have r2 : Vals (V.ref (hp.objs.size + 1) :: gV vs zs) (Value.ref (hp.objs.size + 1) :: g us ws) := .cons rfl (hb.rel r rz)
  have bl := hb.to ⟨_, g', dr, tk', os⟩ (Value.ref (hp.objs.size + 1)) us ws I2.kIn (by rw [← r2.length]; exact F.len _ _ _ _ hq)
  refine wpAny_call (PySem.Xg.kw_call BF hT cl (PySem.W.looks_findIn I.kIn T.ini) (fun self => PySem.W.bind_fn I.kIn self T.tf) ?_ (codeAny_mono (F.run _ X.stack _ _ _ _ _ _ _ (hr.make C us (ks.zip ws)) (I2.env0.make C us (ks.zip ws)) bl r2 hq) ?_))
  · rw [← r.length, sizeLine_eq]
    omega
  · rintro (er | (_ | _ | _ | u)) s' z
    · exact hx pins σ _ _ er s' I2 z
    · exact z.elim
    · exact z.elim
    · exact z.elim
    · obtain ⟨v, H', I3, rv, ev, q3⟩ := I2.after z
      subst ev
      exact ⟨rv, V.ref (hp.objs.size + 1), H', I3, rfl, q3⟩
theorem pe_xm (T : XIn X.K C fI) (F : FnOk X.prog X.w X.K X.mg X.base CX k fI fd ps sp) (hr : Room (k + 1) X.A) (hg : Gl X x) (hm : X.mg x = some (.ref C)) (hb : XB X.K fd ps [] g gV) (hx : Passes CX X (fun _ _ _ => False))
    (ha : PA X (e :: es) t) (hdb : (x == ("__debug__" : Str)) = false := by decide) (he : starEach (e :: es) X.env = (false, eval e X.env) :: starEach es X.env := by rfl)
    (hpl : (backTo pos (starEach es X.env)).any (·.1) = false := by rfl) : PE X (.Call (.Name x p) (e :: es) [] pos) (tXm C sp gV t tNil) := by
  constructor
  intro pins s σ H Q I h
  refine wpAny_Call_Name_kw (ld_glob I hg hm ?_ hdb)
  refine PySem.W.callWith_K (h₀ := X.base) I.ok.mod.kin T.kp (thn (ha.run pos pins s σ H _ I h) ?_) he hpl
  rintro us s1 ⟨vs, H1, I1, r, q⟩
  obtain ⟨len, q⟩ := q
  exact ⟨I1.kIn, run_x (ks := []) (ws := []) T F hr hb hx I1 r .nil len q⟩
theorem pe_xm0 (T : XIn X.K C fI) (F : FnOk X.prog X.w X.K X.mg X.base CX k fI fd ps sp) (hr : Room (k + 1) X.A) (hg : Gl X x) (hm : X.mg x = some (.ref C)) (hb : XB X.K fd ps [] g gV) (hx : Passes CX X (fun _ _ _ => False))
    (hdb : (x == ("__debug__" : Str)) = false := by decide) : PE X (.Call (.Name x p) [] [] pos) (tXm C sp gV tNil tNil) := by
  constructor
  intro pins s σ H Q I h
  obtain ⟨len, q⟩ := h
  refine wpAny_Call_Name_kw (ld_glob I hg hm ?_ hdb)
  exact PySem.W.callWith_K0 I.kIn T.kp (run_x (us := []) (ks := []) (ws := []) T F hr hb hx I .nil .nil len q)
theorem pe_xk (T : XIn X.K C fI) (F : FnOk X.prog X.w X.K X.mg X.base CX k fI fd ps sp) (hr : Room (k + 1) X.A) (hg : Gl X x) (hm : X.mg x = some (.ref C)) (hb : XB X.K fd ps ks g gV) (hx : Passes CX X (fun _ _ _ => False))
    (hkw : PK X kws tk) (hall : (backToKw pos (keywordEach kws X.env)).all (·.1.isSome) = true := by rfl) (hks : (backToKw pos (keywordEach kws X.env)).filterMap (·.1) = ks := by rfl)
    (hdb : (x == ("__debug__" : Str)) = false := by decide)
    (hpl : ((backTo pos (starEach [] X.env)).any (·.1) || (backToKw pos (keywordEach kws X.env)).any (·.1.isNone)) = false := by rfl) :
    PE X (.Call (.Name x p) [] kws pos) (tXm C sp gV tNil tk) := by
  constructor
  intro pins s σ H Q I h
  refine wpAny_Call_Name_kw (ld_glob I hg hm ?_ hdb)
  refine PySem.W.callWith_KW0 (h₀ := X.base) I.ok.mod.kin T.kp hall (thn (hkw.run pos pins s σ H _ I h) ?_) hpl
  rintro ws s2 ⟨zs, H2, I2, rz, len, q2⟩
  rw [hks]
  exact ⟨I2.kIn, run_x (us := []) T F hr hb hx I2 .nil rz len q2⟩
/-- an exception of the class C stands at a, its fields fs -/
def XAt (K : PySem.W.Frag) (H : Hp) (a C : Addr) (fs : List (Str × V)) : Prop := XCl K C ∧ ((fs = [] ∧ H a = some (exo a C none)) ∨ ∃ d, H a = some (exo a C (some d)) ∧ H d = some (exd d fs))
/-- e.f -/
def tXf1 (K : PySem.W.Frag) (f : Str) (te : TE) : TE := fun σ H Q => te σ H fun x H1 => ∃ (a C : Addr) (fs : List (Str × V)) (v : V), x = .ref a ∧ XAt K H1 a C fs ∧ PySem.W.findIn K (.ref C) f = some none ∧ fs.lookup f = some v ∧ Q v H1
theorem pe_xf1 {n : Str} (he : PE X e te) (hb : attributeBase e n X.env (eval e X.env) = eval e X.env := by rfl) : PE X (.Attribute e n pos) (tXf1 X.K n te) := by
  constructor
  intro pins s σ H Q I h
  refine attr_of hb (thn (he.run pins s σ H _ I h) ?_)
  rintro u s1 ⟨x, H1, I1, rx, a, C, fs, v, rfl, ⟨T, at_⟩, no, l, q⟩
  cases rx
  rcases at_ with ⟨rfl, _⟩ | ⟨d, ea, ed⟩
  · cases l
  · obtain ⟨t1, ga⟩ := exo_at I1.hok ea
    obtain ⟨mA, ns, rel⟩ := exd_at I1.hok ed
    obtain ⟨od, go, hl⟩ := lookIn_ns ns
    obtain ⟨u, hu, ru⟩ := RelO.some_of (v := v) (o := mA n) (by rw [← l]; exact rel n)
    exact PySem.PX.exc_get I1.kIn (od := some od) ⟨ga, rfl, rfl, go⟩ T.ga T.gg T.ex (PySem.W.findObj_own T.hd no rfl (by rw [hl, hu])) (handed_of ru) ⟨v, H1, I1.tok _, ru, q⟩
/-- isinstance(e, c) -/
def rIsX (K : PySem.W.Frag) : List V → Hp → VK → Prop := fun xs H Q => ∃ (a C : Addr) (fs : List (Str × V)) (c : V) (cv : Value) (b : Bool), xs = [.ref a, c] ∧ XAt K H a C fs ∧ ClsV c cv ∧ PySem.W.kitOne K (.ref C) cv = some b ∧ Q (.bl b) H
theorem call_isX (cg : PySem.W.specialIn X.K (.builtin "object.__class__") "__get__" = some (some (.builtin "getset_descriptor.__get__"))) (ct : PySem.W.takesIn X.K (.builtin "object.__class__") = some true) :
    CallR X (.builtin "isinstance") (rIsX X.K) := by
  intro pins s σ H xs us Q I r h
  obtain ⟨a, C, fs, c, cv, b, rfl, ⟨T, at_⟩, hc, e, q⟩ := h
  obtain ⟨u1, u2, rfl, r1, r2⟩ := vals2 r
  cases r1
  have e2 := hc.eq r2
  subst e2
  have cls : (PySem.W.clsIn X.K C).isSome = true := by
    obtain ⟨cd, z, _⟩ := PySem.W.any_some T.hd
    rw [z]
    rfl
  have inst : ∃ ox od, PySem.W.InstAt s.heap a ox C od := by
    rcases at_ with ⟨_, ea⟩ | ⟨d, ea, ed⟩
    · obtain ⟨t1, ga⟩ := exo_at I.hok ea
      exact ⟨_, none, ga, rfl, rfl, trivial⟩
    · obtain ⟨t1, ga⟩ := exo_at I.hok ea
      obtain ⟨mA, ns, rel⟩ := exd_at I.hok ed
      obtain ⟨od, go, hl⟩ := lookIn_ns ns
      exact ⟨_, some od, ga, rfl, rfl, go⟩
  obtain ⟨ox, od, J⟩ := inst
  exact PySem.W.kia_one (PySem.W.kitx_exc cls T.ga T.gg T.ex T.ca cg ct T.ob) I.kIn J e (fun z => nomatch z) fun tk => ⟨.bl b, H, I.tok tk, rfl, q⟩
/-- C(e, ..) of a class without an __init__ of its own -/
def tXb (C : Addr) (t : TA) : TE := fun σ H Q => t σ H fun vs H1 => vs.length ≤ 1000 ∧ ∀ a, H1 a = none → Q (.ref a) (upd H1 a (exo a C none))
theorem pe_xb (T : XCl X.K C) (hi : ∃ B newId initId bmB, ExcBaseFacts B newId initId bmB ∧ PySem.W.excInitIn X.K C bmB newId = true ∧ PySem.W.findIn X.K (.ref C) "__init__" = some (some (.builtin initId)))
    (hg : Gl X x) (hm : X.mg x = some (.ref C)) (ha : PA X (e :: es) t) (hdb : (x == ("__debug__" : Str)) = false := by decide)
    (he : starEach (e :: es) X.env = (false, eval e X.env) :: starEach es X.env := by rfl) (hpl : (backTo pos (starEach es X.env)).any (·.1) = false := by rfl) :
    PE X (.Call (.Name x p) (e :: es) [] pos) (tXb C t) := by
  constructor
  intro pins s σ H Q I h
  obtain ⟨B, nI, iI, bmB, BF, ii, fi⟩ := hi
  refine wpAny_Call_Name_kw (ld_glob I hg hm ?_ hdb)
  refine PySem.W.callWith_K (h₀ := X.base) I.ok.mod.kin T.kp (thn (ha.run pos pins s σ H _ I h) ?_) he hpl
  rintro us s1 ⟨vs, H1, I1, r, len, q⟩
  refine ⟨I1.kIn, ?_⟩
  obtain ⟨nm, N', qn, bs, bm, hdct, sn, sub, ab, col, dd, k0, k1, k2, k3, k5, cl, hT⟩ := PySem.W.excInit_of I1.kIn ii
  have lk := PySem.W.looks_findIn (M := model X.prog X.w) I1.kIn fi
  obtain ⟨hp, g', dr, tk', os⟩ := s1
  show wpAny _ _ (call (.ref C) us) _ _ _
  refine PySem.W.call_B BF hT cl lk (by rw [← r.length, sizeLine_eq]; omega) fun h' keep new _ => ?_
  exact ⟨V.ref (hp.objs.size + 1), _, I1.laid (t' := tk') keep (Nat.le_succ _) (exo_ok new), rfl, q _ (I1.hok.fresh (Nat.le_succ _))⟩
end
end Xl

namespace Gy
open PySem PySem.Spec PyProof.Rows L2
/-- data, or a dict without entries, or one whose only key is the text k and whose value is an int -/
inductive Dz (K : PySem.W.Frag) (H : Hp) : V → PyData → Prop
  | dat {v : V} {d : PyData} (h : Dp K H v d) (n : d.hasDict = false) : Dz K H v d
  | d0 {a : Addr} (h : H a = some (.dK [])) : Dz K H (.ref a) (.dict [])
  | d1 {a : Addr} {k : Str} {i : Int} (h : H a = some (.dK [(Sum.inr k, .int i)])) : Dz K H (.ref a) (.dict [(.str k, .int i)])
theorem Dz.reads {X : Cx} {pins : List (Addr × Obj)} {σ : L2.St} {H : Hp} {s : Shared} (I : Inv X pins σ H s) {v : V} {d : PyData} {u : Value} (h : Dz X.K H v d) (r : RelV v u) :
    ∃ as, Reads s.heap u d as ∧ (d.hasDict = true → sysModules ∉ as) := by
  cases h with
  | dat h n =>
    obtain ⟨as, z⟩ := Dp.reads I d v u h r
    exact ⟨as, z, fun q => by rw [n] at q; cases q⟩
  | @d0 a h =>
    cases r
    obtain ⟨_, ns, vs, kv, o, es, ep, g1, ex, g2, ks, ps, _⟩ := (show ObjOk X.prog X.w H s.heap a (.dK []) from I.hok a _ h)
    cases kv
    have e : es.toList = [] := by
      generalize es.toList = l at ps
      cases ps
      rfl
    refine ⟨_, .dict g1 ex.1 g2 (as := []) (bs := []) (by rw [e]; exact .nil) (by rw [e]; exact .nil), fun _ q => ?_⟩
    rw [List.append_nil, List.mem_singleton] at q
    rw [← q] at ns
    cases ns
  | @d1 a k i h =>
    cases r
    obtain ⟨_, ns, vs, kv, o, es, ep, g1, ex, g2, ks, ps, _⟩ := (show ObjOk X.prog X.w H s.heap a (.dK [(Sum.inr k, .int i)]) from I.hok a _ h)
    obtain ⟨t1, t2, e1, e2⟩ : ∃ t1 t2, es.toList.map (·.key) = [.str k t1] ∧ es.toList.map (·.val) = [.int i t2] := by
      generalize es.toList = l at ps
      cases kv with
      | cons hk hr =>
        cases hr
        obtain ⟨h1, h2⟩ := hk
        cases ps with
        | cons p1 p2 p3 =>
          cases p3
          rw [← h1] at p1
          rcases keyIs_shape (show keyIs (Sum.inr k) _ = true from p1) with ⟨j, t, q, _⟩ | ⟨x, t, q, q2⟩
          · cases q
          · cases q
            obtain ⟨t2, h2⟩ := h2
            refine ⟨t, t2, ?_, ?_⟩
            · rw [List.map_singleton, q2]
            · rw [List.map_singleton, p2, h2]
    refine ⟨_, .dict g1 ex.1 g2 (as := [] ++ []) (bs := [] ++ []) (by rw [e1]; exact .cons (.str k t1) .nil) (by rw [e2]; exact .cons (.int i t2) .nil), fun _ q => ?_⟩
    have q' : sysModules ∈ [a] := q
    rw [List.mem_singleton] at q'
    rw [← q'] at ns
    cases ns
/-- each of them shown -/
theorem shows_all {X : Cx} {pins : List (Addr × Obj)} {σ : L2.St} {H : Hp} {s : Shared} (I : Inv X pins σ H s) : ∀ {vs : List V} {ds : List PyData} {us : List Value}, Paired (Dz X.K H) vs ds → Vals vs us →
    PyData.showableAll ds = true → (∀ t ∈ PyData.shownAll ds, t.length ≤ sizeLine) →
    ∃ as bs, ReadsAll s.heap us ds as ∧ ReadAtMost s.heap (PyData.depthAll ds) bs ∧ ReprAllK X.prog X.w bs s.heap (PyData.depthAll ds) us (PyData.shownAll ds)
  | _, _, _, .nil, .nil, _, _ => ⟨[], [], .nil, (fun _ h => nomatch h), .nil⟩
  | _, _, _, .cons (b := d) (l₂ := ds) h hs, .cons r rs, sh, len => by
    have sh2 : d.showable = true ∧ PyData.showableAll ds = true := by simpa only [PyData.showableAll, Bool.and_eq_true] using sh
    obtain ⟨as, rd, no⟩ := h.reads I r
    obtain ⟨b1, m1, k1⟩ := ReprK.of_reads (prog := X.prog) (w := X.w) rd sh2.1 no (len _ List.mem_cons_self)
    obtain ⟨as2, b2, rd2, m2, k2⟩ := shows_all I hs rs sh2.2 fun t ht => len t (List.mem_cons_of_mem _ ht)
    have l1 : d.depth ≤ PyData.depthAll (d :: ds) := Nat.le_max_left _ _
    have l2 : PyData.depthAll ds ≤ PyData.depthAll (d :: ds) := Nat.le_max_right _ _
    refine ⟨as ++ as2, b1 ++ b2, .cons rd rd2, (m1.mono l1).append (m2.mono l2), ?_⟩
    exact .cons ((k1.more fun b hb => List.mem_append_left _ hb).level_le l1) (k2.more_le (fun b hb => List.mem_append_right _ hb) l2)
/-- repr of a list of such values -/
def rRepr (K : PySem.W.Frag) : List V → Hp → VK → Prop := fun xs H Q => ∃ l vs ds, xs = [.ref l] ∧ SqL K H l vs ∧ vs ≠ [] ∧ Paired (Dz K H) vs ds ∧ PyData.showableAll ds = true ∧ PyData.depthAll ds ≤ 60 ∧
  (listText (PyData.shownAll ds)).length ≤ sizeLine ∧ Q (.str (listText (PyData.shownAll ds))) H
theorem repr_dz {X : Cx} (hg : X.A.guards = some []) (hu : X.A.units + 70 < cLine) : CallR X (.builtin "repr") (rRepr X.K) := by
  intro pins s σ H xs us Q I r h
  obtain ⟨l, vs, ds, rfl, sq, nn, dz, sh, dp, len, q⟩ := h
  obtain ⟨u, rfl, ru⟩ := vals1 r
  cases ru
  obtain ⟨its, rv, ⟨o, n, g1, g2, _, g3⟩, _⟩ := I.list sq
  obtain ⟨as, bs, rd, at_, sw⟩ := shows_all I dz rv sh fun t ht => Nat.le_trans (listText_mem_le ht) len
  have out : l ∉ bs := not_mem_of_deeper (.list g1 g2 g3 rd) (by simp only [PyData.depth]; omega) at_
  match its, nn, rv, g3, rd, sw with
  | [], nn, rv, _, _, _ =>
    cases rv
    exact absurd rfl nn
  | x :: rest, _, _, g3, _, sw =>
    refine call_repr_slot (T := "list") (idr := "list.__repr__") (by omega) ⟨o, g1, g2⟩ F.slot_list_repr.toG ?_
    refine call_list_reprK g1 g2 g3 out (by simpa using sw.length_eq) (fun i y e => sw.item i y (by simpa using e)) (g := []) hg (fun b _ => Clear.nil b) (d := PyData.depthAll ds) ?_ (fun _ _ e => e) (fun h' u tk hk => ?_) len
    · show X.A.units + 1 + (PyData.depthAll ds + 1) < cLine
      omega
    · exact ⟨_, _, rfl, .str _, H, I.kept hk, ⟨u, rfl⟩, q⟩
end Gy

/-! Own exceptions over any base raised and caught: one field; several clauses with a name. -/
namespace Xl
open PySem PySem.Spec PyProof.Rows L2 Gy
/-- an __init__ of one field f -/
def spI1 (C : Addr) (f : Str) : Sp := fun vs H Q _ => ∃ (a : Addr) (v : V), vs = [.ref a, v] ∧ H a = some (exo a C none) ∧ ∀ dx, H dx = none → dx ≠ a → Q .non (upd (upd H dx (exd dx [(f, v)])) a (exo a C (some dx)))
theorem del_made {H : Hp} {a dx C : Addr} {f : Str} {v : V} (n : H a = none) (ne : dx ≠ a) :
    upd (del (upd (upd (upd H a (exo a C none)) dx (exd dx [(f, v)])) a (exo a C (some dx))) a) dx (.xd [(f, v)]) = upd H dx (.xd [(f, v)]) := by
  funext b
  by_cases h1 : b = dx
  · rw [h1, upd_same, upd_same]
  · rw [upd_ne h1, upd_ne h1]
    by_cases h2 : b = a
    · rw [h2, del_same, n]
    · rw [del_ne h2, upd_ne h2, upd_ne h1, upd_ne h2]
section
variable {X : Cx} {C fI : Addr} {fd : FuncData} {f x : Str} {e : Expr} {te : TE} {p pos : Pos} {CX' : CXT}
/-- C(e), to be raised -/
def tMk1 (C : Addr) (f : Str) (t : TA) : L2.St → Hp → XK → Prop := fun σ H Q => t σ H fun vs H1 => ∃ v, vs = [v] ∧ ∀ d, H1 d = none → Q (.ref C) (some d) (upd H1 d (.xd [(f, v)]))
theorem pmk_x1 {t : TA} (T : XIn X.K C fI) (ty : PySem.W.typeIn X.K (.ref C) = some (.type "type")) (F : FnOk X.prog X.w X.K X.mg X.base CX0 1 fI fd ["self", f] (spI1 C f)) (hr : Room 2 X.A)
    (hb : XB X.K fd ["self", f] [] (fun us _ => us) (fun vs _ => vs)) (hg : Gl X x) (hm : X.mg x = some (.ref C)) (ha : PA X [e] t)
    (hdb : (x == ("__debug__" : Str)) = false := by decide) (hst : starEach [e] X.env = (false, eval e X.env) :: starEach [] X.env := by rfl) :
    PMk X (.Call (.Name x p) [e] [] pos) (tMk1 C f t) := by
  intro pins s σ H Q I h
  refine wpAny_Call_Name_kw (ld_glob I hg hm ?_ hdb)
  refine PySem.W.callWith_K (h₀ := X.base) I.ok.mod.kin T.kp (thn (ha.run pos pins s σ H _ I h) ?_) hst rfl
  rintro us s1 ⟨vs, H1, I1, r1, v, rfl, q1⟩
  refine ⟨I1.kIn, ?_⟩
  show wpAny _ _ (call (.ref C) us) _ _ _
  obtain ⟨B, nI, iI, bmB, BF, _, ii, _⟩ := T.base
  obtain ⟨nm, N', qn, bs, bm, hdct, sn, sub, ab, col, dd, k0, k1, k2, k3, k5, cl, hT⟩ := PySem.W.excInit_of I1.kIn ii
  obtain ⟨hp, g', dr, tk', os⟩ := s1
  have big : hp.objs.size ≤ hp.objs.size + 1 := Nat.le_succ _
  have na : H1 (hp.objs.size + 1) = none := I1.hok.fresh big
  have keep : ∀ b o, hp.get? b = some o → ((hp.push (PySem.W.kdv_tup us)).push (PySem.PX.excO C hp.objs.size)).get? b = some o := fun b o e =>
    Heap.get?_push_of_some _ (Heap.get?_push_of_some _ e)
  have new : ((hp.push (PySem.W.kdv_tup us)).push (PySem.PX.excO C hp.objs.size)).get? (hp.objs.size + 1) = some (PySem.PX.excO C hp.objs.size) := by heap_get
  have I2 := I1.laid (t' := tk') (a := hp.objs.size + 1) (o := exo (hp.objs.size + 1) C none) keep big (exo_ok new)
  have r2 : Vals [V.ref (hp.objs.size + 1), v] (Value.ref (hp.objs.size + 1) :: us) := .cons rfl r1
  have hq : spI1 C f [V.ref (hp.objs.size + 1), v] (upd H1 (hp.objs.size + 1) (exo (hp.objs.size + 1) C none))
      (fun r H2 => r = .non ∧ ∃ dx, dx ≠ hp.objs.size + 1 ∧ upd H1 (hp.objs.size + 1) (exo (hp.objs.size + 1) C none) dx = none ∧
        H2 = upd (upd (upd H1 (hp.objs.size + 1) (exo (hp.objs.size + 1) C none)) dx (exd dx [(f, v)])) (hp.objs.size + 1) (exo (hp.objs.size + 1) C (some dx))) (fun _ _ _ => False) :=
    ⟨_, v, rfl, upd_same, fun dx nd ne => ⟨rfl, dx, ne, nd, rfl⟩⟩
  have bl := hb.to ⟨_, g', dr, tk', os⟩ (Value.ref (hp.objs.size + 1)) us [] I2.kIn (by rw [← r2.length]; rfl)
  refine wpAny_call (PySem.Xg.kw_call BF hT cl (PySem.W.looks_findIn I1.kIn T.ini) (fun self => PySem.W.bind_fn I1.kIn self T.tf) ?_ (codeAny_mono (F.run _ X.stack _ _ _ _ _ _ _ (hr.make C us []) (I2.env0.make C us []) bl r2 hq) ?_))
  · rw [← r1.length, sizeLine_eq]
    show 1 ≤ 16777216
    decide
  · rintro (er | (_ | _ | _ | u)) s' z
    · exact (show False from z).elim
    · exact z.elim
    · exact z.elim
    · exact z.elim
    · obtain ⟨r, H2, os2, bare2, un2, hok2, rv, er, dx, ne, nd, e2⟩ := z
      subst er
      obtain ⟨h2, g2, d2, t2, os'⟩ := s'
      subst e2
      refine ⟨rv, mk_end (raises_own T.ex ty) I1 big keep un2 hok2 os2 bare2 upd_same ((upd_ne ne).trans upd_same) ((upd_ne ne).symm.trans nd) ?_⟩
      rw [del_made na ne]
      exact q1 dx ((upd_ne ne).symm.trans nd)
/-- raise C(e) -/
theorem ps_raise1 {W : WX} {t : TA} {rp : Pos} (hc : X.calm = true) (tk : Takes X W) (T : XIn X.K C fI) (ty : PySem.W.typeIn X.K (.ref C) = some (.type "type")) (F : FnOk X.prog X.w X.K X.mg X.base CX0 1 fI fd ["self", f] (spI1 C f)) (hr : Room 2 X.A)
    (hb : XB X.K fd ["self", f] [] (fun us _ => us) (fun vs _ => vs)) (hg : Gl X x) (hm : X.mg x = some (.ref C)) (ha : PA X [e] t)
    (hdb : (x == ("__debug__" : Str)) = false := by decide) (hst : starEach [e] X.env = (false, eval e X.env) :: starEach [] X.env := by rfl) :
    PS X (.Raise (some (.Call (.Name x p) [e] [] pos)) none rp) (fun _ σ H => tMk1 C f t σ H fun cls d H' => W cls d σ H') :=
  ps_raise hc tk (pmk_x1 T ty F hr hb hg hm ha hdb hst)
end
section
variable {X : Cx}
/-- what several clauses 'except x as n' wish of an exception of the body, one after the other: slot i is n's -/
def wManyAs (K : PySem.W.Frag) (i : Nat) (Wout : WX) (D : Ends) : List (Value × (Addr → Value → Option Addr → TS)) → WX
  | [] => Wout
  | (c, ts) :: r => fun cls d σ H => ∃ b, PySem.W.exmOne K cls c = some b ∧
      (b = true → ∀ a, H a = none → ts a cls d { nx := fun σ' H' => D.nx (σ'.set i none) H', rt := D.rt, bk := fun σ' H' => D.bk (σ'.set i none) H', ct := fun σ' H' => D.ct (σ'.set i none) H' } (σ.set i (some (.ref a))) H) ∧
      (b = false → wManyAs K i Wout D r cls d σ H)
inductive HdsAs (X : Cx) (n : Str) : List ExceptHandler → List (Value × (Addr → Value → Option Addr → TS)) → Prop
  | nil : HdsAs X n [] []
  | cons {x : Str} {c : Value} {ts : Addr → Value → Option Addr → TS} {b₀ : Stmt} {suite : List Stmt} {np pos' : Pos} {hds : List ExceptHandler} {l : List (Value × (Addr → Value → Option Addr → TS))} (hc : Names X x c)
      (hsu : ∀ (a : Addr) (oe : Obj) (cls : Value) (d : Option Addr) (pn : List (Addr × Obj)), Zc cls d oe → (∃ vs, oe.data = .fields vs) → PSs (X.suite a ((a, oe) :: pn)) (b₀ :: suite) (ts a cls d)) (r : HdsAs X n hds l) :
      HdsAs X n (.ExceptHandler (some (.Name x np)) (some n) (b₀ :: suite) pos' :: hds) ((c, ts) :: l)
variable {body : List Stmt} {h₀ : ExceptHandler} {hds : List ExceptHandler} {l : List (Value × (Addr → Value → Option Addr → TS))} {n : Str} {i : Nat} {pos : Pos} {tb : WX → TS} {Wout : WX}
/-- try: body, several clauses 'except x as n' -/
theorem ps_try_manyAs (hs : X.stack = X.env :: X.outer) (hf : X.env.frame = some X.env.locals) (hN : X.N.Nodup) (hi : X.N[i]? = some n) (hln : X.env.kindOf n = some .local) (tk : Takes X Wout)
    (hb : ∀ (W : WX) (pn : List (Addr × Obj)) (xe : Value → Shared → Prop), Takes (X.tr pn xe) W → PassesOwn (model X.prog X.w) X.A X.env xe → PSs (X.tr pn xe) body (tb W))
    (hh : HdsAs X n (h₀ :: hds) l) : PS X (.Try body (h₀ :: hds) [] [] pos) (fun D σ H => tb (wManyAs X.K i Wout D l) D σ H) := by
  constructor
  intro pins s σ H D I h
  have ok := I.ok
  have fr : X.A.frames = some (X.env :: X.outer) := by
    rw [ok.frames, hs]
  refine wpAny_Try_except ?_
  have run := hb (wManyAs X.K i Wout D l) (X.pn ++ pins) (fun e s₁ => wpAny (model X.prog X.w) X.A (noteFrame e X.env) (fun _ s₂ => wpAny (model X.prog X.w) X.A (setFlight e none)
    (fun _ s₃ => wpAny (model X.prog X.w) X.A (handleBy e X.env (h₀ :: hds)) (SP X pins D) X.xe s₃) X.xe s₂) X.xe s₁) ?tk PassesOwn.looking
  case tk =>
    rintro u s' ⟨a, B, sI, pins', σ', H', cls, d, rfl, J', nb, up, sky, na, os, ag, wish⟩
    have J := J'.ofTry ok
    rw [show (X.tr (X.pn ++ pins) _).stack = X.env :: X.outer from hs] at sky
    refine Sky.land Zc.steady fr hf sky fun h3 fl3 up3 => ?_
    have J3 : Inv X pins σ' H' { s' with heap := h3 } := J.landed nb fl3.1 (up.trans up3) os ag
    obtain ⟨oe3, vs3, at3, z3, d3⟩ := fl3.there
    have out : a ∉ frs (X.env :: X.outer) := fun m => by
      obtain ⟨_, o', q', nf⟩ := fl3.2.2.1.mem m
      rw [at3] at q'
      cases q'
      exact nf _ d3
    have nL : a ≠ X.env.locals := fun z => out (List.mem_filterMap.mpr ⟨X.env, List.mem_cons_self, by rw [hf, z]⟩)
    have nF : a ∉ X.fs := fun m => by
      obtain ⟨e', he', q'⟩ := List.mem_filterMap.mp m
      exact out (List.mem_filterMap.mpr ⟨e', List.mem_cons_of_mem _ he', q'⟩)
    have S3 := J3.suite at3 d3 na nL nF
    have go : ∀ {hds' l'}, HdsAs X n hds' l' → wManyAs X.K i Wout D l' cls d σ' H' → wpAny (model X.prog X.w) X.A (handleBy (.ref a) X.env hds') (SP X pins D) X.xe { s' with heap := h3 } := by
      intro hds' l' hk
      induction hk with
      | nil =>
        intro wish
        refine wpAny_handleBy_nil ?_
        obtain ⟨k1, k2, k3, oe, vs, T, oT, ts', he, hz, hd, h1, hr⟩ := id fl3
        unfold PySem.passOn
        refine wpAny_bind (wpAny_field he hd h1 ?_)
        rw [if_neg (show ¬ ((Value.ref T == Value.none) = true) from by simp)]
        have fin : wpAny (model X.prog X.w) X.A (setFlight (.ref a) X.env.frame) (fun _ s4 => wpAny (model X.prog X.w) X.A (throw (.ref a) : Sem Flow) (SP X pins D) X.xe s4) X.xe { s' with heap := h3 } := by
          rw [hf]
          refine HandSPX.setFlight_upZ fl3 fun h4 hh4 up4 => wpAny_throw (tk _ _ ?_)
          refine ⟨a, B, sI, pins, σ', H', cls, d, rfl, J, nb, (up.trans up3).trans up4, .inr (.inr ?_), na, os, ag, wish⟩
          rw [hs]
          exact hh4
        first
          | exact wpAny_bind (wpAny_pure (wpAny_bind fin))
          | exact wpAny_bind fin
      | @cons x c ts b₀ suite np pos' hds2 l2 hc hsu r ih =>
        rintro ⟨b, hb1, yes, no⟩
        refine wpAny_handleBy_cons (codeAny_handlers_test ?_) (by intro q; cases q)
        have ty : PySem.W.Looks (model X.prog X.w) h3 (typeOf (.ref a)) cls := fun A Q E s k q => wpAny_typeOf_ref (k _ _ at3) (by rw [z3.1]; exact q)
        have look := PySem.W.exm_one (M := model X.prog X.w) J3.kIn ty hb1
        have name : ∀ {Q : Value → Shared → Prop} {E : Value → Shared → Prop}, Q c { s' with heap := h3 } → wpAny (model X.prog X.w) (X.A.mark (some (.ref a))) (eval (.Name x np) X.env) Q E { s' with heap := h3 } := by
          intro Q E q
          obtain ⟨hg, hdbg, hm | ⟨hm, hv, hnn⟩⟩ := hc
          · exact ld_glob (X := X.suite a ((a, oe3) :: (X.pn ++ pins))) S3 hg hm q hdbg
          · exact ld_blt (X := X.suite a ((a, oe3) :: (X.pn ++ pins))) S3 hg hm hv q hnn hdbg
        refine name (look.here ?_)
        cases b with
        | false =>
          show wpAny _ X.A (handleBy (.ref a) X.env hds2) _ _ _
          exact ih (no rfl)
        | true =>
          refine codeAny_handlers_suite_as ?_
          refine HandSPX.lands_againZ fl3 fun h4 fl4 up4 => ?_
          have J4 : Inv X pins σ' H' { s' with heap := h4 } := J.landed nb fl4.1 ((up.trans up3).trans up4) os ag
          obtain ⟨oe4, vs4, at4, z4, d4⟩ := fl4.there
          have S4 := J4.suite at4 d4 na nL nF
          refine store_ok (X := X.suite a ((a, oe4) :: (X.pn ++ pins))) (v := .ref a) S4 hN hi (.inl hln) rfl (fun s5 S5 => ?_) (.inr hln)
          refine wpAny_mono ((hsu a oe4 cls d (X.pn ++ pins) z4 ⟨_, d4⟩).run [] s5 _ H' _ S5 (yes rfl a na)) (fun f s6 sp => ?_) (fun _ _ z => False.elim z)
          have leave : ∀ {σ6 : L2.St} {H6 : Hp} {Q : Shared → Prop}, Inv (X.suite a ((a, oe4) :: (X.pn ++ pins))) [] σ6 H6 s6 → (∀ s7, Inv X pins (σ6.set i none) H6 s7 → Q s7) →
              wpAny (model X.prog X.w) X.A (do bindName X.env n .none; unbindBehindTheSuite X.env n pos') (fun _ s7 => Q s7) X.xe s6 := fun S6 hq => gone_ok (S6.unsuite ok) hN hi hln hq
          cases f with
          | ret u =>
            obtain ⟨v6, σ6, H6, S6, r6, q6⟩ := sp
            exact leave S6 fun s7 J7 => ⟨_, _, _, J7, r6, q6⟩
          | _ =>
            obtain ⟨σ6, H6, S6, q6⟩ := sp
            exact leave S6 fun s7 J7 => ⟨_, _, J7, q6⟩
    exact go hh wish
  refine wpAny_mono (run.run [] s σ H D (I.toTry _) h) (fun f s1 sp => ?_) (fun e s1 he => he)
  cases f with
  | next =>
    obtain ⟨σ', H', J', q⟩ := sp
    exact wpAny_execs_nil ⟨σ', H', J'.ofTry ok, q⟩
  | ret u =>
    obtain ⟨v, σ', H', J', r, q⟩ := sp
    exact ⟨v, σ', H', J'.ofTry ok, r, q⟩
  | _ =>
    obtain ⟨σ', H', J', q⟩ := sp
    exact ⟨σ', H', J'.ofTry ok, q⟩
end
end Xl

/-! In an except suite: isinstance of the caught error, whose fields stand in its dict. -/
namespace Xl
open PySem PySem.Spec PyProof.Rows L2 Gy
def rIsS (K : PySem.W.Frag) (a : Addr) (cls : Value) (d : Option Addr) : List V → Hp → VK → Prop := fun xs H Q => ∃ (D dd : Addr) (fs : List (Str × V)) (c : V) (cv : Value) (b : Bool),
  xs = [.ref a, c] ∧ cls = .ref D ∧ d = some dd ∧ H dd = some (.xd fs) ∧ XCl K D ∧ ClsV c cv ∧ PySem.W.kitOne K (.ref D) cv = some b ∧ Q (.bl b) H
theorem call_isS {X : Cx} {a : Addr} {oe : Obj} {cls : Value} {d : Option Addr} {pn : List (Addr × Obj)} (cg : PySem.W.specialIn X.K (.builtin "object.__class__") "__get__" = some (some (.builtin "getset_descriptor.__get__")))
    (ct : PySem.W.takesIn X.K (.builtin "object.__class__") = some true) (hz : Zc cls d oe) (hf : ∃ vs, oe.data = .fields vs) : CallR (X.suite a ((a, oe) :: pn)) (.builtin "isinstance") (rIsS X.K a cls d) := by
  intro pins s σ H xs us Q I r h
  obtain ⟨D, dd, fs, c, cv, b, rfl, rfl, rfl, hd, T, hc, e, q⟩ := h
  obtain ⟨u1, u2, rfl, r1, r2⟩ := vals2 r
  cases r1
  have e2 := hc.eq r2
  subst e2
  obtain ⟨ha, _⟩ := I.pin (a, oe) (List.mem_append_left _ List.mem_cons_self)
  obtain ⟨vs, hv⟩ := hf
  obtain ⟨mA, ns, _⟩ := (show ObjOk X.prog X.w H s.heap dd (.xd fs) from I.hok dd _ hd)
  obtain ⟨od, go, _⟩ := lookIn_ns ns
  have cl : (PySem.W.clsIn X.K D).isSome = true := by
    obtain ⟨cd, z, _⟩ := PySem.W.any_some T.hd
    rw [z]
    rfl
  have J : PySem.W.InstAt s.heap a oe D (some od) := by
    obtain ⟨oc, odd, oda, osl⟩ := oe
    obtain ⟨h1, h2⟩ := hz
    dsimp only at h1 h2 hv
    subst h1 h2 hv
    exact ⟨ha, rfl, rfl, go⟩
  exact PySem.W.kia_one (PySem.W.kitx_exc cl T.ga T.gg T.ex T.ca cg ct T.ob) I.kIn J e (fun z => nomatch z) fun tk => ⟨.bl b, H, I.tok tk, rfl, q⟩
end Xl

/-! Tuples that are made in the run, known to have no dict of their own: so their methods can be called. -/
namespace Xt
open PySem PySem.Spec PyProof.Rows L2
/-- a tuple that was made in the run -/
def Tz (H : Hp) (a : Addr) (xs : List V) : Prop := ∃ o : Obj, H a = some (.frz o (.tup xs)) ∧ o.cls = .type "tuple" ∧ o.dict = none
theorem Tz.sq {K : PySem.W.Frag} {H : Hp} {a : Addr} {xs : List V} (h : Tz H a xs) : SqT K H a xs := by
  obtain ⟨o, e, _⟩ := h
  exact .inl (.inr ⟨o, e⟩)
theorem Tz.same {H H' : Hp} {a : Addr} {xs : List V} (h : Tz H a xs) (s : Same H H') : Tz H' a xs := by
  obtain ⟨o, e, c⟩ := h
  exact ⟨o, s _ _ e, c⟩
theorem Tz.ty {K : PySem.W.Frag} {H : Hp} {a : Addr} {xs : List V} (h : Tz H a xs) : TyX K H (.ref a) (.type "tuple") := by
  obtain ⟨o, e, _⟩ := h
  exact .fTuple e
theorem Tz.ne {H : Hp} {a p : Addr} {xs : List V} (h : Tz H a xs) (n : H p = none) : a ≠ p := by
  obtain ⟨o, e, _⟩ := h
  exact ne_of_none e n
/-- the goal behind a new tuple -/
def NewT (xs : List V) (H : Hp) (Q : VK) : Prop := ∀ p o, H p = none → Same H (upd H p o) → Tz (upd H p o) p xs → Q (.ref p) (upd H p o)
section
variable {X : Cx} {pins : List (Addr × Obj)} {σ : L2.St} {H : Hp} {s : Shared} {Q : VK}
theorem lay_new (I : Inv X pins σ H s) {xs : List V} {us : List Value} {n : Nat} (z : xs.length ≤ sizeLine) (r : Vals xs us) (q : NewT xs H Q) :
    EP X pins σ Q (.ref s.heap.objs.size) { s with heap := s.heap.push { cls := .type "tuple", data := .seq us.toArray n } } := by
  have new : H s.heap.objs.size = none := I.hok.fresh (Nat.le_refl _)
  have got : (s.heap.push { cls := .type "tuple", data := .seq us.toArray n }).get? s.heap.objs.size = some { cls := .type "tuple", data := .seq us.toArray n } := Heap.get?_push_size _ rfl
  refine ⟨.ref s.heap.objs.size, upd H s.heap.objs.size (.frz { cls := .type "tuple", data := .seq us.toArray n } (.tup xs)), I.laid (t' := s.toks) (fun b u e => Heap.get?_push_of_some _ e) (Nat.le_refl _) ⟨got, z, us, r, _, got, rfl, n, rfl⟩, rfl, ?_⟩
  refine q _ _ new (fun b x e => ?_) ⟨_, upd_same, rfl, rfl⟩
  rw [upd_ne (ne_of_none e new)]
  exact e
/-- a written tuple -/
def tTupZ (t : TA) : TE := fun σ H Q => t σ H fun xs H1 => xs.length ≤ sizeLine ∧ NewT xs H1 Q
theorem pe_tupZ {es : List Expr} {t : TA} {x1} {pos : Pos} (h : PA X es t) : PE X (.Tuple es x1 pos) (tTupZ t) := by
  refine ⟨fun pins s σ H Q I hq => wpAny_Tuple_spliced (thn (h.run pos pins s σ H _ I hq) fun us s1 ⟨xs, H1, I1, r, z, q⟩ => ⟨by rw [← r.length]; exact z, ?_⟩)⟩
  exact lay_new I1 z r q
/-- tuple(xs), xs a list -/
def rTupOf (K : PySem.W.Frag) : List V → Hp → VK → Prop := fun xs H Q => ∃ p ys, xs = [.ref p] ∧ SqL K H p ys ∧ ys.length ≤ 1000 ∧ NewT ys H Q
theorem call_tupOf : CallR X (.type "tuple") (rTupOf X.K) := by
  intro pins s σ H xs us Q I r h
  obtain ⟨p, ys, rfl, sq, le, q⟩ := h
  obtain ⟨u, rfl, rx⟩ := vals1 r
  cases rx
  obtain ⟨its, rv, pl, z⟩ := I.list sq
  have el := rv.length
  refine call_tuple_list pl.isList (fun h2 keep => ?_) (by simp only [List.size_toArray]; omega)
  exact lay_new (n := 0) (I.kept (t' := s.toks) keep) z rv q
/-- t[a:b], not the whole -/
def rCut (K : PySem.W.Frag) : V → Option Int → Option Int → Hp → VK → Prop := fun x lo hi H Q => ∃ a xs, x = .ref a ∧ SqT K H a xs ∧ ¬ (HT.sIx xs.length 0 lo = 0 ∧ HT.sIx xs.length xs.length hi = xs.length) ∧ NewT (cutV xs lo hi) H Q
theorem sl_cut : SlR X (rCut X.K) := by
  intro pins s σ H x v vl vu lo hi sl Q I rx hs pl pu h
  obtain ⟨a, xs, rfl, sq, part, q⟩ := h
  cases rx
  obtain ⟨its, r, at_, z⟩ := I.tuple sq
  have el : its.toArray.size = xs.length := by rw [List.size_toArray]; exact r.length.symm
  refine ⟨"tuple", _, PyProof.Rows.slot_tuple_getitem.lookup, at_.typeIs, HT.getItem_tuple_cut at_ hs pl pu (by rw [el]; exact part) ?_ (by rw [el]; exact z)⟩
  rw [el]
  exact lay_new I (Nat.le_trans (cutV_length xs lo hi) z) ((r.drop (HT.sIx xs.length 0 lo)).take (HT.sIx xs.length xs.length hi - HT.sIx xs.length 0 lo)) q
/-- t[a:b] of any kind: the whole is t itself; what comes is told by a relation that both give -/
def rCutA (K : PySem.W.Frag) : V → Option Int → Option Int → Hp → VK → Prop := fun x lo hi H Q => ∃ a xs, x = .ref a ∧ Tz H a xs ∧ (cutV xs lo hi = xs → Q (.ref a) H) ∧ NewT (cutV xs lo hi) H Q
theorem cut_whole {xs : List V} {lo hi : Option Int} (h : HT.sIx xs.length 0 lo = 0 ∧ HT.sIx xs.length xs.length hi = xs.length) : cutV xs lo hi = xs := by
  unfold cutV
  rw [h.1, h.2, List.drop_zero, Nat.sub_zero, List.take_of_length_le (Nat.le_refl _)]
theorem sl_cutA : SlR X (rCutA X.K) := by
  intro pins s σ H x v vl vu lo hi sl Q I rx hs pl pu h
  obtain ⟨a, xs, rfl, tz, q1, q2⟩ := h
  by_cases w : HT.sIx xs.length 0 lo = 0 ∧ HT.sIx xs.length xs.length hi = xs.length
  · exact sl_tupA pins s σ H _ v vl vu lo hi sl Q I rx hs pl pu ⟨a, xs, rfl, tz.sq, fun _ => q1 (cut_whole w), fun z => absurd w z⟩
  · exact sl_cut pins s σ H _ v vl vu lo hi sl Q I rx hs pl pu ⟨a, xs, rfl, tz.sq, w, q2⟩
/-- t + u -/
def rSum (K : PySem.W.Frag) : R2 := fun x y H Q => ∃ a b xs ys, x = .ref a ∧ y = .ref b ∧ Tz H a xs ∧ Tz H b ys ∧ xs.length + ys.length ≤ sizeLine ∧ (xs = [] → Q (.ref b) H) ∧ (ys = [] → Q (.ref a) H) ∧ NewT (xs ++ ys) H Q
theorem op_sum : OpR X (binaryOp .Add) (rSum X.K) := by
  intro pins s σ H x y v u Q I rx ry h
  obtain ⟨a, b, xs, ys, rfl, rfl, ta, tb, z, q0, q1, q2⟩ := h
  cases rx
  cases ry
  obtain ⟨its, r1, p1, _⟩ := I.tuple ta.sq
  obtain ⟨its2, r2, p2, _⟩ := I.tuple tb.sq
  by_cases e : xs = []
  · subst e
    cases r1
    exact cat_tup0 p1 p2 ⟨.ref b, H, I, rfl, q0 rfl⟩
  · refine HT.cat_tup p1 p2 (fun w => e (r1.nil_iff.mp w)) (fun w => ⟨.ref a, H, I, rfl, q1 (r2.nil_iff.mp w)⟩) (fun _ => ?_) (by rw [← r1.length, ← r2.length]; exact z)
    exact lay_new I (by rw [List.length_append]; exact z) (r1.append r2) q2
/-- t.m(e, ..), t a tuple made in the run -/
def tTm (r : V → List V → Hp → VK → Prop) (to : TE) (t : TA) : TE := fun σ H Q => to σ H fun x H1 => (∃ a xs, x = .ref a ∧ Tz H1 a xs) ∧ t σ H1 fun ys H2 => r x ys H2 Q
theorem pe_tm {o e : Expr} {es : List Expr} {to : TE} {t : TA} {name : Str} {apos cpos : Pos} {id : String} {r : V → List V → Hp → VK → Prop} (slot : Slot "tuple" name id) (hty : typeOf (.builtin id) = pure (.type "method_descriptor")) (hm : MtR X id r) (ho : PE X o to) (ha : PA X (e :: es) t)
    (hbase : attributeBase o name X.env (eval o X.env) = eval o X.env := by rfl)
    (few : ((backTo cpos (starEach (e :: es) X.env)).all (fun x => !x.1) && (backToKw cpos (keywordEach [] X.env)).all (fun x => x.1.isSome) && decide ((e :: es).length + ([] : List Keyword).length + (if ([] : List Keyword).isEmpty then 0 else 1) < 30)) = true := by rfl)
    (hline : (apos.endLine == cpos.line) = true := by rfl) (hs : starEach (e :: es) X.env = (false, eval e X.env) :: starEach es X.env := by rfl) (hpl : (backTo cpos (starEach es X.env)).any (·.1) = false := by rfl) :
    PE X (.Call (.Attribute o name apos) (e :: es) [] cpos) (tTm r to t) := by
  refine ⟨fun pins s σ H Q I h => wpAny_Call_method_late hbase few hline rfl (thn (ho.run pins s σ H _ I h) fun v s1 ⟨x, H1, I1, r1, ty, q1⟩ => ?_)⟩
  obtain ⟨a, xs, rfl, ob, eo, oc, od⟩ := ty
  cases r1
  have got : s1.heap.get? a = some ob := (show ObjOk X.prog X.w H1 s1.heap a (.frz ob (.tup xs)) from I1.hok a _ eo).1
  refine ⟨"tuple", id, PySem.F.plainAttrs_tuple, slot, hty, ⟨ob, got, oc⟩, fun b eb => by cases eb; exact ⟨ob, got, od⟩, ?_⟩
  have args := ha.run cpos pins s1 σ H1 _ I1 q1
  rw [hs] at args ⊢
  refine Calls.callWith_builtin (by show (false || (backTo cpos (starEach es X.env)).any (·.1)) = false; rw [hpl]; rfl) (Calls.evalArgs_plain (thn args fun us s2 ⟨vs, H2, I2, r2, q2⟩ => ?_))
  exact hm pins s2 σ H2 (.ref a) vs (.ref a) us Q I2 rfl r2 q2
end
end Xt

/-! D.get(k) of a dict of the module's top, by a text: there or not. -/
namespace Xt
open PySem PySem.Spec PyProof.Rows L2
/-- a dict of the top, as a function of texts -/
def KFn (K : PySem.W.Frag) (w : World) (a : Addr) (f : Str → Option V) : Prop := ∃ es n, K.lookup a = some ⟨.type "dict", none, .dict es n, #[]⟩ ∧ PySem.W.KeysLit w.params es.toList ∧ (a == sysModules) = false ∧
  ∀ z, RelV ((f z).getD .non) ((findBy Value.isStrOf es z).getD .none)
def tKGet (K : PySem.W.Frag) (w : World) (td ty : TE) : TE := fun σ H Q => td σ H fun x H1 => ∃ a f, x = .ref a ∧ KFn K w a f ∧ ty σ H1 fun y H2 => ∃ z, y = .str z ∧ Q ((f z).getD .non) H2
theorem pe_kget {X : Cx} {o e : Expr} {apos cpos : Pos} {td ty : TE} (ho : PE X o td) (he : PE X e ty) (m : M1 X o "get" apos e cpos) : PE X (.Call (.Attribute o "get" apos) [e] [] cpos) (tKGet X.K X.w td ty) := by
  refine ⟨fun pins s σ H Q I h => ?_⟩
  refine wpAny_Call_method m.base m.few m.line PySem.F.plainAttrs_dict PySem.F.slot_dict_get PySem.F.type_dict_get (thn (ho.run pins s σ H _ I h) fun u s1 ⟨x, H1, I1, rx, a, f, ex, ⟨es, n, hl, hk, low, hf⟩, q1⟩ => ?_)
  subst ex
  obtain rfl : u = Value.ref a := rx
  have hm1 := PySem.W.mapOf_K (prog := X.prog) (w := X.w) I1.kIn hl hk
  refine ⟨hm1.typeIs, fun b q => ?_, ?_⟩
  · cases q
    exact ⟨_, I1.kIn _ _ hl, rfl⟩
  rw [m.trees]
  refine Calls.callWith_builtin rfl (Calls.evalArgs_plain (Calls.spliced_cons (thn (he.run pins s1 σ H1 _ I1 q1) fun iv s2 ⟨y, H2, I2, ry, z, ey, q2⟩ => Calls.spliced_nil ?_)))
  subst ey
  obtain ⟨t, rfl⟩ := (show ∃ t, iv = Value.str z t from ry)
  have hm := PySem.W.mapOf_K (prog := X.prog) (w := X.w) I2.kIn hl hk
  exact call_meetsIn PySem.F.slot_dict_get hm.typeIs PySem.F.entry_dict_get (PySem.F.args_dict_get_2 _ _) (meets_dict_get (strKind X.prog X.w) a (strKind_is X.prog X.w z t) low) ⟨_, hm, _, H2, I2.tok _, hf z, q2⟩
end Xt

/-! Data at any depth, with dicts without entries anywhere in it: how it is read and shown. -/
namespace Gy
open PySem PySem.Spec PyProof.Rows L2 Xt
mutual
inductive Dn (K : PySem.W.Frag) (H : Hp) : V → PyData → Prop
  | non : Dn K H .non .none
  | bl (b : Bool) : Dn K H (.bl b) (.bool b)
  | int (i : Int) : Dn K H (.int i) (.int i)
  | str (x : Str) : Dn K H (.str x) (.str x)
  | lst {a : Addr} {xs : List V} {ds : List PyData} (h : H a = some (.lst xs)) (t : Dns K H xs ds) : Dn K H (.ref a) (.list ds)
  | tup {a : Addr} {xs : List V} {ds : List PyData} (h : Tz H a xs) (t : Dns K H xs ds) : Dn K H (.ref a) (.tuple ds)
  | dic {a : Addr} (h : H a = some (.dK [])) : Dn K H (.ref a) (.dict [])
inductive Dns (K : PySem.W.Frag) (H : Hp) : List V → List PyData → Prop
  | nil : Dns K H [] []
  | cons {v : V} {vs : List V} {d : PyData} {ds : List PyData} (h : Dn K H v d) (t : Dns K H vs ds) : Dns K H (v :: vs) (d :: ds)
end
mutual
theorem Dn.same {K : PySem.W.Frag} {H H' : Hp} (s : Same H H') : ∀ {v : V} {d : PyData}, Dn K H v d → Dn K H' v d
  | _, _, .non => .non
  | _, _, .bl b => .bl b
  | _, _, .int i => .int i
  | _, _, .str x => .str x
  | _, _, .lst h a => .lst (s _ _ h) (Dns.same s a)
  | _, _, .tup h a => .tup (h.same s) (Dns.same s a)
  | _, _, .dic h => .dic (s _ _ h)
theorem Dns.same {K : PySem.W.Frag} {H H' : Hp} (s : Same H H') : ∀ {vs : List V} {ds : List PyData}, Dns K H vs ds → Dns K H' vs ds
  | _, _, .nil => .nil
  | _, _, .cons h t => .cons (Dn.same s h) (Dns.same s t)
end
/-- a dict without entries, as the model has it -/
theorem dict_at {X : Cx} {pins : List (Addr × Obj)} {σ : L2.St} {H : Hp} {s : Shared} (I : Inv X pins σ H s) {a : Addr} (h : H a = some (.dK [])) :
    (a == sysModules) = false ∧ ∃ o es ep, s.heap.get? a = some o ∧ o.cls = .type "dict" ∧ o.data = .dict es ep ∧ es.toList = [] ∧ Reads s.heap (.ref a) (.dict []) [a] := by
  obtain ⟨_, ns, vs, kv, o, es, ep, g1, ex, g2, ks, ps, _⟩ := (show ObjOk X.prog X.w H s.heap a (.dK []) from I.hok a _ h)
  cases kv
  have e : es.toList = [] := by
    generalize es.toList = l at ps
    cases ps
    rfl
  exact ⟨ns, o, es, ep, g1, ex.1, g2, e, .dict g1 ex.1 g2 (as := []) (bs := []) (by rw [e]; exact .nil) (by rw [e]; exact .nil)⟩
section
variable {X : Cx} {pins : List (Addr × Obj)} {σ : L2.St} {H : Hp} {s : Shared}
mutual
theorem Dn.shows (I : Inv X pins σ H s) : ∀ {v : V} {d : PyData} {u : Value}, Dn X.K H v d → RelV v u → d.showable = true → d.shown.length ≤ sizeLine →
    ∃ as bs, Reads s.heap u d as ∧ ReadAtMost s.heap d.depth bs ∧ ReprK X.prog X.w bs s.heap d.depth u d.shown
  | _, _, _, .non, r, hs, hz => by
    cases r
    obtain ⟨bs, h1, h2⟩ := ReprK.of_reads (prog := X.prog) (w := X.w) (h₀ := s.heap) Reads.none hs (fun z => nomatch z) hz
    exact ⟨_, bs, .none, h1, h2⟩
  | _, _, _, .bl b, r, hs, hz => by
    cases r
    obtain ⟨bs, h1, h2⟩ := ReprK.of_reads (prog := X.prog) (w := X.w) (h₀ := s.heap) (Reads.bool b) hs (fun z => nomatch z) hz
    exact ⟨_, bs, .bool b, h1, h2⟩
  | _, _, _, .int i, r, hs, hz => by
    obtain ⟨t, rfl⟩ := r
    obtain ⟨bs, h1, h2⟩ := ReprK.of_reads (prog := X.prog) (w := X.w) (h₀ := s.heap) (Reads.int i t) hs (fun z => nomatch z) hz
    exact ⟨_, bs, .int i t, h1, h2⟩
  | _, _, _, .str x, r, hs, hz => by
    obtain ⟨t, rfl⟩ := r
    obtain ⟨bs, h1, h2⟩ := ReprK.of_reads (prog := X.prog) (w := X.w) (h₀ := s.heap) (Reads.str x t) hs (fun z => nomatch z) hz
    exact ⟨_, bs, .str x t, h1, h2⟩
  | _, _, _, .lst (a := a) (ds := ds) h ha, r, hs, hz => by
    cases r
    have hz' : (listText (PyData.shownAll ds)).length ≤ sizeLine := by simpa only [PyData.shown] using hz
    obtain ⟨its, rv, ⟨o, n, ho, hc, _, hd⟩, _⟩ := I.list (SqL.of h)
    obtain ⟨as, bs, hr, hb, hk⟩ := Dns.shows I ha rv (by simpa [PyData.showable] using hs) (fun t ht => Nat.le_trans (listText_mem_le ht) hz')
    have q : Reads s.heap (.ref a) (.list ds) _ := .list ho hc hd hr
    have hna : a ∉ bs := not_mem_of_deeper q (by simp only [PyData.depth]; omega) hb
    refine ⟨_, a :: bs, q, ReadAtMost.cons q (by simp only [PyData.depth]; omega) hb, ?_⟩
    simp only [PyData.depth, PyData.shown]
    cases its with
    | nil =>
      cases hr
      simp only [PyData.shownAll, listText_nil]
      exact ReprK.listEmpty ho hc hd
    | cons x l => exact ReprK.list ho hc hd hna (by simpa using hk.length_eq) (fun i y e => hk.item i y (by simpa using e))
  | _, _, _, .tup (a := a) (ds := ds) h ha, r, hs, hz => by
    cases r
    have hz' : (tupleText (PyData.shownAll ds)).length ≤ sizeLine := by simpa only [PyData.shown] using hz
    obtain ⟨its, rv, ⟨o, ho, hc, n, hd⟩, _⟩ := I.tuple h.sq
    obtain ⟨as, bs, hr, hb, hk⟩ := Dns.shows I ha rv (by simpa [PyData.showable] using hs) (fun t ht => Nat.le_trans (tupleText_mem_le ht) hz')
    have q : Reads s.heap (.ref a) (.tuple ds) _ := .tuple ho hc hd hr
    have hna : a ∉ bs := not_mem_of_deeper q (by simp only [PyData.depth]; omega) hb
    refine ⟨_, a :: bs, q, ReadAtMost.cons q (by simp only [PyData.depth]; omega) hb, ?_⟩
    simp only [PyData.depth, PyData.shown]
    exact ReprK.tuple ho hc hd hna hk
  | _, _, _, .dic (a := a) h, r, hs, hz => by
    cases r
    obtain ⟨ns, o, es, ep, ho, hc, hd, he, q⟩ := dict_at I h
    refine ⟨_, [a], q, ReadAtMost.cons q (n := 0) (Nat.zero_le _) (fun _ z => nomatch z), ?_⟩
    exact ReprK.dict (as := []) (d := 0) (ps := []) ho hc hd ns (fun z => nomatch z) (by rw [he]; exact .nil)
theorem Dns.shows (I : Inv X pins σ H s) : ∀ {vs : List V} {ds : List PyData} {us : List Value}, Dns X.K H vs ds → Vals vs us → PyData.showableAll ds = true → (∀ t ∈ PyData.shownAll ds, t.length ≤ sizeLine) →
    ∃ as bs, ReadsAll s.heap us ds as ∧ ReadAtMost s.heap (PyData.depthAll ds) bs ∧ ReprAllK X.prog X.w bs s.heap (PyData.depthAll ds) us (PyData.shownAll ds)
  | _, _, _, .nil, .nil, _, _ => ⟨[], [], .nil, (fun _ h => nomatch h), .nil⟩
  | _, _, _, .cons (d := d) (ds := ds) h hs, .cons r rs, sh, len => by
    have sh2 : d.showable = true ∧ PyData.showableAll ds = true := by simpa only [PyData.showableAll, Bool.and_eq_true] using sh
    obtain ⟨as, b1, rd, m1, k1⟩ := Dn.shows I h r sh2.1 (len _ List.mem_cons_self)
    obtain ⟨as2, b2, rd2, m2, k2⟩ := Dns.shows I hs rs sh2.2 fun t ht => len t (List.mem_cons_of_mem _ ht)
    have l1 : d.depth ≤ PyData.depthAll (d :: ds) := Nat.le_max_left _ _
    have l2 : PyData.depthAll ds ≤ PyData.depthAll (d :: ds) := Nat.le_max_right _ _
    refine ⟨as ++ as2, b1 ++ b2, .cons rd rd2, (m1.mono l1).append (m2.mono l2), ?_⟩
    exact .cons ((k1.more fun b hb => List.mem_append_left _ hb).level_le l1) (k2.more_le (fun b hb => List.mem_append_right _ hb) l2)
end
end
/-- repr of any such value -/
def rReprN (K : PySem.W.Frag) : List V → Hp → VK → Prop := fun xs H Q => ∃ v d, xs = [v] ∧ Dn K H v d ∧ d.showable = true ∧ d.depth ≤ 60 ∧ d.shown.length ≤ sizeLine ∧ Q (.str d.shown) H
theorem repr_dn {X : Cx} (hg : X.A.guards = some []) (hu : X.A.units + 70 < cLine) : CallR X (.builtin "repr") (rReprN X.K) := by
  intro pins s σ H xs us Q I r h
  obtain ⟨v, d, rfl, dn, sh, dp, len, q⟩ := h
  obtain ⟨u, rfl, ru⟩ := vals1 r
  have fin : ∀ (h' : Heap) (x : Tok) (tk : Nat), (∀ b o, s.heap.get? b = some o → h'.get? b = some o) → ∃ y H', Inv X pins σ H' { s with heap := h', toks := tk } ∧ RelV y (.str d.shown x) ∧ Q y H' := fun h' x tk hk => ⟨.str d.shown, H, I.kept hk, ⟨x, rfl⟩, q⟩
  cases dn with
  | non =>
    cases ru
    exact P.repr_of_none ⟨.str "None", H, I.tok _, ⟨_, rfl⟩, q⟩
  | bl b =>
    cases ru
    exact P.repr_of_bool ⟨.str (PyData.shown (.bool b)), H, I.tok _, ⟨_, by cases b <;> rfl⟩, q⟩
  | int i =>
    obtain ⟨t, rfl⟩ := ru
    exact P.repr_of_int (by simpa [PyData.showable] using sh) ⟨.str (toString i), H, I.tok _, ⟨_, rfl⟩, q⟩
  | str x =>
    obtain ⟨t, rfl⟩ := ru
    exact P.repr_of_str ⟨.str (reprText x), H, I.tok _, ⟨_, rfl⟩, q⟩ len
  | @lst a ys ds h ha =>
    cases ru
    have len' : (listText (PyData.shownAll ds)).length ≤ sizeLine := by simpa only [PyData.shown] using len
    obtain ⟨its, rv, ⟨o, n, g1, g2, _, g3⟩, _⟩ := I.list (SqL.of h)
    obtain ⟨as, bs, rd, at_, sw⟩ := Dns.shows I ha rv (by simpa [PyData.showable] using sh) fun t ht => Nat.le_trans (listText_mem_le ht) len'
    have out : a ∉ bs := not_mem_of_deeper (.list g1 g2 g3 rd) (by simp only [PyData.depth]; omega) at_
    refine call_repr_slot (T := "list") (idr := "list.__repr__") (by omega) ⟨o, g1, g2⟩ F.slot_list_repr.toG ?_
    match its, rv, g3, rd, sw with
    | [], rv, g3, rd, _ =>
      cases rd
      exact call_list_repr_empty ⟨o, g1, g2⟩ g1 g3 ⟨_, _, rfl, .str "[]", H, I.tok _, ⟨_, rfl⟩, by simpa only [PyData.shown, PyData.shownAll, listText_nil] using q⟩
    | x :: rest, _, g3, _, sw =>
      refine call_list_reprK g1 g2 g3 out (by simpa using sw.length_eq) (fun i y e => sw.item i y (by simpa using e)) (g := []) hg (fun b _ => Clear.nil b) (d := PyData.depthAll ds) ?_ (fun _ _ e => e) (fun h' u tk hk => ⟨_, _, rfl, fin h' u tk hk⟩) len'
      simp only [PyData.depth] at dp
      show X.A.units + 1 + (PyData.depthAll ds + 1) < cLine
      omega
  | @tup a ys ds h ha =>
    cases ru
    have len' : (tupleText (PyData.shownAll ds)).length ≤ sizeLine := by simpa only [PyData.shown] using len
    obtain ⟨its, rv, ⟨o, g1, g2, n, g3⟩, _⟩ := I.tuple h.sq
    obtain ⟨as, bs, rd, at_, sw⟩ := Dns.shows I ha rv (by simpa [PyData.showable] using sh) fun t ht => Nat.le_trans (tupleText_mem_le ht) len'
    have out : a ∉ bs := not_mem_of_deeper (.tuple g1 g2 g3 rd) (by simp only [PyData.depth]; omega) at_
    refine call_repr_slot (T := "tuple") (idr := "tuple.__repr__") (by omega) ⟨o, g1, g2⟩ F.slot_tuple_repr ?_
    refine call_tuple_reprK g1 g2 g3 out sw (g := []) hg (fun b _ => Clear.nil b) (d := PyData.depthAll ds) ?_ (fun _ _ e => e) (fun h' u tk hk => ⟨_, _, rfl, fin h' u tk hk⟩) len'
    simp only [PyData.depth] at dp
    show X.A.units + 1 + (PyData.depthAll ds + 1) < cLine
    omega
  | @dic a h =>
    cases ru
    obtain ⟨ns, o, es, ep, g1, g2, g3, he, _⟩ := dict_at I h
    refine call_repr_slot (T := "dict") (idr := "dict.__repr__") (by omega) ⟨o, g1, g2⟩ F.slot_dict_repr ?_
    refine call_dict_reprK (as := []) (d := 0) (ps := []) g1 g2 g3 ns (fun z => nomatch z) (by rw [he]; exact .nil) (g := []) hg (fun b _ => Clear.nil b) ?_ (fun _ _ e => e) (fun h' u tk hk => ⟨_, _, rfl, fin h' u tk hk⟩) len
    show X.A.units + 1 + (0 + 1) < cLine
    omega
end Gy

/-! len(set(t)) of a tuple of texts, of any number of them. -/
namespace Xs
open PySem PySem.Spec PyProof.Rows L2
/-- how many different ones the first i are -/
def numd (xs : List Str) : Nat → Nat
  | 0 => 0
  | i + 1 => if xs.getD i Str.empty ∈ xs.take i then numd xs i else numd xs i + 1
theorem numd_le (xs : List Str) : ∀ i, numd xs i ≤ i
  | 0 => Nat.le_refl _
  | i + 1 => by
    have := numd_le xs i
    unfold numd
    split <;> omega
theorem numd_full (xs : List Str) : ∀ i, i ≤ xs.length → (numd xs i = i ↔ (xs.take i).Nodup)
  | 0, _ => by simp [numd]
  | i + 1, hi => by
    have lt : i < xs.length := hi
    have ih := numd_full xs i (Nat.le_of_lt lt)
    have le := numd_le xs i
    have e : xs.getD i Str.empty = xs[i] := by rw [List.getD_eq_getElem?_getD, List.getElem?_eq_getElem lt]; rfl
    have t : xs.take (i + 1) = xs.take i ++ [xs[i]] := by rw [List.take_add_one, List.getElem?_eq_getElem lt]; rfl
    unfold numd
    rw [e, t]
    by_cases m : xs[i] ∈ xs.take i
    · rw [if_pos m]
      refine ⟨fun z => by omega, fun z => ?_⟩
      rw [List.nodup_append] at z
      exact absurd rfl (z.2.2 _ m _ List.mem_cons_self)
    · rw [if_neg m]
      refine ⟨fun z => ?_, fun z => ?_⟩
      · rw [List.nodup_append]
        refine ⟨ih.mp (by omega), by simp, fun a ha b hb ab => ?_⟩
        rw [List.mem_singleton.mp hb] at ab
        exact m (ab ▸ ha)
      · rw [List.nodup_append] at z
        rw [ih.mpr z.1]
section
variable {P : Program} {w : World} {A : Around} {R : Result → Shared → Prop} {J : Addr} {fp wr : List Addr} {G : Array GenState → Array GenState → Prop} {n : Nat} {Y : Nat → Value → Prop} {Z : Nat → Shared → Prop}
/-- the set takes text after text -/
theorem take_texts (W : WalksS P w A.in1 J fp wr G n Y Z) (S : Addr) (out : S ∉ fp) (xs : List Str) (len : xs.length = n) (room : n + 1 < scanBound) (val : ∀ i v, Y i v → ∃ t, v = .str (xs.getD i Str.empty) t) :
    ∀ (k i : Nat) (s : Shared), n - i = k → i ≤ n → Z i s → s.heap.SetOf (strKind P w) S (fun x => decide (x ∈ xs.take i)) (numd xs i) →
      (∀ s2, Moved (S :: wr) G s s2 → s2.heap.SetOf (strKind P w) S (fun x => decide (x ∈ xs.take n)) (numd xs n) → R (.ok (.ret .none)) s2) →
      codeAny (model P w) A (.builtin "set.update.loop" ⟨[.ref S, .ref J], []⟩) R s := by
  have out2 : S ∉ wr := fun h => out (W.sub _ h)
  have more : ∀ b ∈ wr, b ∈ S :: wr := fun b hb => List.mem_cons_of_mem _ hb
  intro k
  induction k with
  | zero =>
    intro i s ek le z hS fin
    obtain rfl : i = n := by omega
    refine codeAny_builtin PyProof.Rows.F.entry_set_update_loop ?_; rw [Around.under_plainId PyProof.Rows.F.plain_set_update_loop _]
    show wpAny _ A.in1 (pyNext (.ref J) >>= _) _ _ s
    refine wpAny_bind (W.done s _ _ z fun s2 mv => ?_)
    obtain ⟨o, es, ep, t, ho, rest⟩ := hS
    exact wpAny_pure (fin s2 (mv.mono more) ⟨o, es, ep, t, mv.heap S _ out2 ho, rest⟩)
  | succ k ih =>
    intro i s ek le z hS fin
    have lt : i < n := by omega
    refine codeAny_builtin PyProof.Rows.F.entry_set_update_loop ?_; rw [Around.under_plainId PyProof.Rows.F.plain_set_update_loop _]
    show wpAny _ A.in1 (pyNext (.ref J) >>= _) _ _ s
    refine wpAny_bind (W.item i s _ _ lt z fun v s2 hY z2 mv => ?_)
    obtain ⟨t, rfl⟩ := val i v hY
    have hS2 : s2.heap.SetOf (strKind P w) S (fun x => decide (x ∈ xs.take i)) (numd xs i) := by
      obtain ⟨o, es, ep, tb, ho, rest⟩ := hS
      exact ⟨o, es, ep, tb, mv.heap S _ out2 ho, rest⟩
    show wpAny _ A.in1 (holding [Value.str (xs.getD i Str.empty) t] (setAdd S (.str (xs.getD i Str.empty) t)) >>= _) _ _ s2
    refine wpAny_bind (wpAny_holding ?_); unfold setAdd; refine wpAny_holding ?_
    refine wpAny_bind ((strKind P w).pyHash (k := xs.getD i Str.empty) (strKind_is _ _ _ _) ?_)
    have nl := numd_le xs i
    refine wpAny_setAddHashed_of (knd := strKind P w) (s := { s2 with toks := s2.toks + 1 }) (strKind_is _ _ _ _) rfl hS2 (by omega) fun h3 sb hS3 => ?_
    have hS4 : h3.SetOf (strKind P w) S (fun x => decide (x ∈ xs.take (i + 1))) (numd xs (i + 1)) := by
      have lt' : i < xs.length := by omega
      have e : xs.getD i Str.empty = xs[i] := by rw [List.getD_eq_getElem?_getD, List.getElem?_eq_getElem lt']; rfl
      have t : xs.take (i + 1) = xs.take i ++ [xs[i]] := by rw [List.take_add_one, List.getElem?_eq_getElem lt']; rfl
      refine SetOf_congr hS3 (fun x => ?_) ?_
      · show (decide (x ∈ xs.take i) || decide (x = xs.getD i Str.empty)) = decide (x ∈ xs.take (i + 1))
        rw [e, ← Bool.decide_or]
        congr 1
        rw [t, List.mem_append, List.mem_singleton]
      · show _ = if xs.getD i Str.empty ∈ xs.take i then numd xs i else numd xs i + 1
        simp only [decide_eq_true_eq]
    refine wpAny_pure ⟨plainId_quiet PyProof.Rows.F.plain_set_update_loop _, ih (i + 1) _ (by omega) lt (W.frame _ s2 _ _ z2 (Nat.le_succ _) fun b hb o e => ?_) hS4 fun s4 mv4 hS5 => ?_⟩
    · rw [sb.2 b (fun h : b = S => out (h ▸ hb))]
      exact e
    · refine fin s4 (Moved.trans W.gtrans ((mv.mono more).then_heap (Nat.le_succ _) fun b o hb e => ?_) mv4) hS5
      rw [sb.2 b (fun h : b = S => hb (h ▸ List.mem_cons_self))]
      exact e
end
/-- the set before anything is in it -/
def set0 (b : Bool) : Obj := { cls := .type "set", dict := none, data := .set #[] 0 (.fresh 0 0 b) }
section
variable {P : Program} {w : World} {A : Around} {E : Value → Shared → Prop} {s : Shared}
set_option maxHeartbeats 3200000 in
theorem set_of_texts {l : Addr} {its : Array Value} {xs : List Str} {Q : Value → Shared → Prop} (calm : A.handled = none) (at_ : s.heap.IsTuple l its) (are : StrsAre its.toList xs) (room : xs.length + 1 < scanBound)
    (fin : ∀ (h2 : Heap) (tk : Nat), h2.SetOf (strKind P w) s.heap.objs.size (fun x => decide (x ∈ xs)) (numd xs xs.length) → (∀ b o, b < s.heap.objs.size → s.heap.get? b = some o → h2.get? b = some o) → Q (.ref s.heap.objs.size) { s with heap := h2, toks := tk }) :
    wpAny (model P w) A (call (.type "set") [.ref l]) Q E s := by
  have sz : xs.length = its.size := by rw [← StrsAre.len_eq are, Array.length_toList]
  obtain ⟨_, _, m0⟩ := PySem.F.called_set.mro
  have m1 := PySem.F.called_set.made; have m2 := PySem.F.called_set.sub
  refine wpAny_call (codeAny_of_tree ?_); show wpAny _ _ (callAny (.type "set") _) _ _ _
  refine wpAny_pure ⟨Code.quiet_builtin _ (by decide +kernel), codeAny_builtin PySem.F.entry_type_call ?_⟩; rw [Around.under_plain (weight_type_call_type "set" [.ref l] []) rfl]
  have m3 := PySem.F.called_set.notType; have m4 := PySem.F.called_set.canCreate; have m5 := PySem.F.typeCall_set_1 (.ref l)
  repeat (any_goals (first | assumption | wp_step))
  refine codeAny_mono (code_set_new_1 (.ref l) (E := E) (Q₁ := fun ob s1 => ∃ led : Bool, ob = .ref s.heap.objs.size ∧ s1 = { s with heap := s.heap.push (set0 led) }) fun led => ⟨led, rfl, rfl⟩) fun r s1 hr => ?_
  rcases r with e | (_ | _ | _ | ob)
  · exact hr
  · exact hr.elim
  · exact hr.elim
  · exact hr.elim
  obtain ⟨led, rfl, rfl⟩ := hr
  have got : (s.heap.push (set0 led)).get? s.heap.objs.size = some (set0 led) := Heap.get?_push_size _ rfl
  have ty : Shared.TypeIs { s with heap := s.heap.push (set0 led) } (.ref s.heap.objs.size) "set" := ⟨_, got, rfl⟩
  have m6 := PySem.F.called_set.init.lookup; have m7 := PySem.F.called_set.init.bind (.ref s.heap.objs.size)
  repeat (any_goals (first | assumption | wp_step))
  refine codeAny_mono (codeAny_call_builtin (R := wants (fun r s2 => r = .none ∧ ∃ h2 tk, s2 = { s with heap := h2, toks := tk } ∧ h2.SetOf (strKind P w) s.heap.objs.size (fun x => decide (x ∈ xs)) (numd xs xs.length) ∧
      (∀ b o, b < s.heap.objs.size → s.heap.get? b = some o → h2.get? b = some o)) E) PySem.F.called_set.init.plain PySem.F.entry_set_init (check_set_init_1 ty ?_)) fun r2 s2 hr2 => ?_
  · obtain ⟨ol, go, co, nl, dl⟩ := at_
    obtain ⟨ocls, odict, odata, oslots⟩ := ol
    simp only at co dl
    subst co dl
    have go2 : (s.heap.push (set0 led)).get? l = some { cls := .type "tuple", dict := odict, data := .seq its nl, slots := oslots } := Heap.get?_push_of_some _ go
    have m8 := PySem.F.sub_tuple_set; have m9 := PySem.F.sub_tuple_frozenset
    have m10 : (Value.type "tuple" == Value.type "dict") = false := by decide
    have at2 : (s.heap.push (set0 led)).IsTuple l its := ⟨_, go2, rfl, nl, rfl⟩
    unfold Builtin.«set.__init__» noKeywords Builtin.Frozenset.updateFrom; generalize ePI : pyIter = PI
    wp_walk
    subst ePI
    refine wpAny_pyIter_tuple at2 (wpAny_bind (wpAny_runValue ?_))
    have low : l < s.heap.objs.size := Heap.lt_size go
    have calm3 : A.in1.in1.in1.handled = none := by simp [calm]
    have far : l ≠ (s.heap.push (set0 led)).objs.size := by rw [Heap.size_push]; exact Nat.ne_of_lt (Nat.lt_succ_of_lt low)
    have out : s.heap.objs.size ∉ [(s.heap.push (set0 led)).objs.size, l] := by
      rw [Heap.size_push]
      simp only [List.mem_cons, List.not_mem_nil, or_false, not_or]
      exact ⟨Nat.ne_of_lt (Nat.lt_succ_self _), Nat.ne_of_gt low⟩
    refine take_texts ((Walks.tuple calm3 _ l far its).toS) s.heap.objs.size out xs sz (by rw [← sz]; exact room) (fun i v hv => SS.strs_at are i v (by rw [Array.getElem?_toList]; exact hv)) (its.size - 0) 0 _ (by omega) (Nat.zero_le _)
      ⟨⟨_, Heap.get?_push_size _ rfl, rfl, rfl⟩, at2.push _⟩ ?first ?last
    case first =>
      have got2 : ((s.heap.push (set0 led)).push { cls := .type "tuple_iterator", data := .fields #[.ref l, .int 0 0] }).get? s.heap.objs.size = some (set0 led) := Heap.get?_push_of_some _ got
      exact SetOf_congr ((setObjOf_fresh (knd := strKind P w) led).setOf got2 (by unfold scanBound; omega)) (fun _ => rfl) rfl
    case last =>
      intro s2 mv hS
      obtain ⟨h2, g2, d2, tk2, os2⟩ := s2
      obtain rfl : g2 = s.gens := mv.gens
      obtain rfl : d2 = s.drawn := mv.drawn
      obtain rfl : os2 = s.os := mv.os
      rw [← sz, List.take_of_length_le (Nat.le_refl _)] at hS
      show wpAny _ _ _ _ _ _
      refine wpAny_pure (wpAny_pure ⟨rfl, h2, tk2, rfl, hS, fun b o lb e => ?_⟩)
      refine mv.heap b o ?_ (Heap.get?_push_of_some _ (Heap.get?_push_of_some _ e))
      rw [Heap.size_push]
      simp only [List.mem_cons, List.not_mem_nil, or_false, not_or]
      exact ⟨Nat.ne_of_lt lb, Nat.ne_of_lt (Nat.lt_succ_of_lt lb)⟩
  · rcases r2 with e | (_ | _ | _ | r)
    · exact hr2
    · exact hr2.elim
    · exact hr2.elim
    · exact hr2.elim
    obtain ⟨rfl, h2, tk, rfl, hS, keep⟩ := hr2
    repeat (any_goals (first | assumption | wp_step))
    exact fin _ _ hS keep
end
section
variable {X : Cx}
/-- len(set(t)), t a tuple of texts -/
def tLenTexts (K : PySem.W.Frag) (ta : TE) : TE := fun σ H Q => ta σ H fun x H1 => ∃ (l : Addr) (xs : List Str), x = .ref l ∧ SqT K H1 l (xs.map V.str) ∧ xs.length ≤ 4000 ∧ Q (.int (numd xs xs.length : Nat)) H1
theorem pe_lenTexts {a : Expr} {ta : TE} {p p2 q pos : Pos} (hg : Gl X "len") (hm : X.mg "len" = none) (hg2 : Gl X "set") (hm2 : X.mg "set" = none) (ha : PE X a ta) (calm : X.calm = true := by rfl)
    (na : starEach [a] X.env = (false, eval a X.env) :: starEach [] X.env := by rfl) : PE X (.Call (.Name "len" p) [.Call (.Name "set" p2) [a] [] q] [] pos) (tLenTexts X.K ta) := by
  refine ⟨fun pins s σ H Q I h => Call_ (ld_blt I hg hm boot_len ?_)⟩
  refine PyProof.Rows.callWith_builtin1 (PyProof.Rows.args_cons (Call_ (ld_blt I hg2 hm2 boot_set ?_)) rfl) rfl rfl
  refine PyProof.Rows.callWith_type1 (PyProof.Rows.args_cons (thn (ha.run pins s σ H _ I h) fun v s1 ⟨x, H1, I1, r1, q1⟩ => PyProof.Rows.args_nil ?_) na) na rfl
  obtain ⟨l, xs, rfl, sq, le, q1⟩ := q1
  cases r1
  obtain ⟨its, r, pl, _⟩ := I1.tuple sq
  refine set_of_texts (I1.ok.hd calm) pl (by simpa using strsAre_of r) (by unfold scanBound; omega) fun h2 tk hS keep => ?_
  refine PyProof.Rows.args_nil ?_
  obtain ⟨o, es, ep, t, ho, ex, hd, _, _, _, hf, hn⟩ := hS
  have I2 : Inv X pins σ H1 { s1 with heap := h2, toks := tk } := I1.kept fun b o e => keep b o (Heap.lt_size e) e
  have nl := numd_le xs xs.length
  exact call_len_set ho ex hd hf (by rw [hn]; omega) ⟨.int (numd xs xs.length : Nat), H1, I2.tok _, ⟨_, by rw [hn]⟩, q1⟩
end
end Xs

/-! Defs and what is known of them in one word; the built-in names that are not taken. -/
namespace My
open PySem PySem.Spec PyProof.Rows L2 Gy Xl Xs Xt
/-- no name of the module's own hides a built-in one -/
structure Bn (mg : Str → Option Value) : Prop where
  len : mg "len" = none
  range : mg "range" = none
  abs : mg "abs" = none
  max : mg "max" = none
  min : mg "min" = none
  divmod : mg "divmod" = none
  isinstance : mg "isinstance" = none
  str : mg "str" = none
  int : mg "int" = none
  bool : mg "bool" = none
  tuple : mg "tuple" = none
  list : mg "list" = none
  set : mg "set" = none
  dict : mg "dict" = none
  all : mg "all" = none
  any : mg "any" = none
  repr : mg "repr" = none
  sorted : mg "sorted" = none
  enumerate : mg "enumerate" = none
  zip : mg "zip" = none
/-- a def of the top, by its name, with its promise -/
structure Fk (P : Program) (w : World) (K : PySem.W.Frag) (mg : Str → Option Value) (base : Heap) (CX : CXT) (k : Nat) (nm : Str) (ps : List Str) (sp : Sp) : Prop where
  ex : ∃ (f : Addr) (fd : FuncData), mg nm = some (.ref f) ∧ PySem.W.keepIn K (.ref f) = true ∧ Binds K fd ps [] ∧ FnOk P w K mg base CX k f fd ps sp
/-- the same where no repr is under way -/
structure Fg (P : Program) (w : World) (K : PySem.W.Frag) (mg : Str → Option Value) (base : Heap) (CX : CXT) (k : Nat) (nm : Str) (ps : List Str) (sp : Sp) : Prop where
  ex : ∃ (f : Addr) (fd : FuncData), mg nm = some (.ref f) ∧ PySem.W.keepIn K (.ref f) = true ∧ Binds K fd ps [] ∧ FnG P w K mg base CX k f fd ps sp
section
variable {P : Program} {w : World} {K : PySem.W.Frag} {mg : Str → Option Value} {base : Heap} {CX : CXT} {k : Nat} {nm : Str} {ps : List Str} {sp : Sp}
theorem Fk.imp {sp' : Sp} (F : Fk P w K mg base CX k nm ps sp) (h : ∀ vs H Q E, sp' vs H Q E → sp vs H Q E) : Fk P w K mg base CX k nm ps sp' := by
  obtain ⟨f, fd, a, b, c, d⟩ := F.ex
  exact ⟨f, fd, a, b, c, d.imp h⟩
theorem Fk.g (F : Fk P w K mg base CX k nm ps sp) : Fg P w K mg base CX k nm ps sp := by
  obtain ⟨f, fd, a, b, c, d⟩ := F.ex
  exact ⟨f, fd, a, b, c, .of d⟩
/-- what is raised is never raised -/
theorem passN {X : Cx} : Passes (L2.CX X.prog X.w) X (fun _ _ _ => False) := by
  rintro pins σ H s e s' I ⟨a, B, H', cls, d, _, _, _, _, _, _, _, f⟩
  exact f.elim
end
section
variable {X : Cx} {CX : CXT} {k : Nat} {ps : List Str} {sp : Sp} {E : XK} {x : Str} {p pos : Pos} {e : Expr} {es : List Expr} {t : TA}
theorem pe_callF (F : Fk X.prog X.w X.K X.mg X.base CX k x ps sp) (hr : Room k X.A) (hg : Gl X x) (hx : Passes CX X E) (ha : PA X (e :: es) t)
    (hdb : (x == ("__debug__" : Str)) = false := by decide) (he : starEach (e :: es) X.env = (false, eval e X.env) :: starEach es X.env := by rfl)
    (hpl : (backTo pos (starEach es X.env)).any (·.1) = false := by rfl) : PE X (.Call (.Name x p) (e :: es) [] pos) (tCall sp [] E t) := by
  obtain ⟨f, fd, m, kp, b, G⟩ := F.ex
  exact pe_call G hr hg m kp b .nil hx ha hdb he hpl
theorem pe_callFg (F : Fg X.prog X.w X.K X.mg X.base CX k x ps sp) (gd : X.A.guards = some []) (hr : Room k X.A) (hg : Gl X x) (hx : Passes CX X E) (ha : PA X (e :: es) t)
    (hdb : (x == ("__debug__" : Str)) = false := by decide) (he : starEach (e :: es) X.env = (false, eval e X.env) :: starEach es X.env := by rfl)
    (hpl : (backTo pos (starEach es X.env)).any (·.1) = false := by rfl) : PE X (.Call (.Name x p) (e :: es) [] pos) (tG sp E t) := by
  obtain ⟨f, fd, m, kp, b, G⟩ := F.ex
  exact pe_callG G gd hr hg m kp b hx ha hdb he hpl
end
/-! ### heaps -/
theorem same_upd {H : Hp} {p : Addr} {o : HO} (h : H p = none) : Same H (upd H p o) := fun b x e => by
  rw [upd_ne (ne_of_none e h)]
  exact e
/-- a new object that is written once more: what stood before stands -/
theorem same_upd2 {H0 H : Hp} {p : Addr} {o : HO} (s : Same H0 H) (h : H0 p = none) : Same H0 (upd H p o) := fun b x e => by
  rw [upd_ne (ne_of_none e h)]
  exact s b x e
/-- all but r stands -/
def But (r : Addr) (H H' : Hp) : Prop := ∀ b o, b ≠ r → H b = some o → H' b = some o
theorem But.refl (r : Addr) (H : Hp) : But r H H := fun _ _ _ h => h
theorem But.trans {r : Addr} {H H1 H2 : Hp} (a : But r H H1) (b : But r H1 H2) : But r H H2 := fun c o n h => b c o n (a c o n h)
theorem But.of {r : Addr} {H H' : Hp} (s : Same H H') : But r H H' := fun c o _ h => s c o h
theorem But.upd {r L : Addr} {H H' : Hp} {o : HO} (h : But r H H') (n : H L = none) : But r H (L2.upd H' L o) := fun c u nc e => by
  rw [upd_ne (ne_of_none e n)]
  exact h c u nc e
theorem small200 {n : Nat} (h : n ≤ 10000) : n < sizeLine := Nat.lt_of_le_of_lt h (by decide)
theorem le200 {n : Nat} (h : n ≤ 10000) : n ≤ sizeLine := Nat.le_of_lt (small200 h)
/-- an item of a list of texts, by a number below its length -/
theorem at_in {α : Type} {xs : List α} {d : Int} (h0 : 0 ≤ d) (h1 : d < (xs.length : Int)) : ∃ v, atI xs d = some v ∧ v ∈ xs := by
  obtain ⟨j, rfl⟩ := Int.eq_ofNat_of_zero_le h0
  have hj : j < xs.length := by omega
  exact ⟨xs[j], atI_nat (List.getElem?_eq_getElem hj), List.getElem_mem hj⟩
theorem fun_g0 {P : Program} {w : World} {K : PySem.W.Frag} {mg : Str → Option Value} {base : Heap} {k : Nat} {f : Addr} {fd : FuncData} {ps N : List Str} {sp : Sp} {x qual : Str} {st : Stmt} (F : Fun K x qual st f fd) (S : FnScope N ps (defScope st)) (ln : ∀ {vs H Q E}, sp vs H Q E → vs.length = ps.length)
    (bd : ∀ (cdv : Value) (A : Around) (outer : List Env) (s : Shared) (H : Hp) (vs : List V) (Q : VK) (E : XK), A.guards = some [] →
      Room k (A.deeper (envOfC qual (defScope st) s.heap.objs.size f cdv)) → sp vs H Q E →
      ∃ t, PSs (cxOf CX0 P w K mg base N qual (defScope st) f cdv A outer s H E).nox (defBody st) t ∧
        t { nx := fun _ H' => Q .non H', rt := Q } (start N vs) H) : FnG P w K mg base CX0 (k + 1) f fd ps sp := by
  refine fun_g F S ln fun cdv A outer s H vs Q E g hr h => ?_
  obtain ⟨t, ht, hq⟩ := bd cdv A outer s H vs Q E g hr h
  exact ⟨t, ht.nox, hq⟩
theorem Room.units70 {k : Nat} {A : Around} (r : Room k A) : A.units + 70 < cLine := by
  have := r.un
  omega
theorem all_true {n : Nat} : ((List.replicate n true).all id) = true := by
  induction n with
  | zero => rfl
  | succ n ih => rw [List.replicate_succ, List.all_cons, ih]; rfl
end My

namespace My
open PySem PySem.Spec PyProof.Rows L2
def top (i : Nat) : Stmt := PySem.Challenge.pw_relinktree_k93_event_texts.main.body.getD i (.Pass ⟨0, 0, 0, 0⟩)
abbrev s_is_host_name : Stmt := top 10
theorem sc_is_host_name : FnScope ["value"] ["value"] (defScope s_is_host_name) := ⟨rfl, rfl, rfl, by decide +kernel, rfl, by decide +kernel, by decide +kernel⟩
abbrev s_is_word : Stmt := top 11
theorem sc_is_word : FnScope ["value"] ["value"] (defScope s_is_word) := ⟨rfl, rfl, rfl, by decide +kernel, rfl, by decide +kernel, by decide +kernel⟩
abbrev s_is_text_of : Stmt := top 12
theorem sc_is_text_of : FnScope ["value", "characters", "longest", "character"] ["value", "characters", "longest"] (defScope s_is_text_of) := ⟨rfl, rfl, rfl, by decide +kernel, rfl, by decide +kernel, by decide +kernel⟩
abbrev s_is_integer_from : Stmt := top 14
theorem sc_is_integer_from : FnScope ["value", "least"] ["value", "least"] (defScope s_is_integer_from) := ⟨rfl, rfl, rfl, by decide +kernel, rfl, by decide +kernel, by decide +kernel⟩
abbrev s_is_index : Stmt := top 15
theorem sc_is_index : FnScope ["value", "size"] ["value", "size"] (defScope s_is_index) := ⟨rfl, rfl, rfl, by decide +kernel, rfl, by decide +kernel, by decide +kernel⟩
abbrev s_parse_index : Stmt := top 16
theorem sc_parse_index : FnScope ["text", "size", "written", "index"] ["text", "size"] (defScope s_parse_index) := ⟨rfl, rfl, rfl, by decide +kernel, rfl, by decide +kernel, by decide +kernel⟩
abbrev s_is_relink : Stmt := top 19
theorem sc_is_relink : FnScope ["value", "path", "cut"] ["value"] (defScope s_is_relink) := ⟨rfl, rfl, rfl, by decide +kernel, rfl, by decide +kernel, by decide +kernel⟩
abbrev s_is_relink_path : Stmt := top 20
theorem sc_is_relink_path : FnScope ["value", "host"] ["value"] (defScope s_is_relink_path) := ⟨rfl, rfl, rfl, by decide +kernel, rfl, by decide +kernel, by decide +kernel⟩
abbrev s_is_cut_of : Stmt := top 21
theorem sc_is_cut_of : FnScope ["path", "value"] ["path", "value"] (defScope s_is_cut_of) := ⟨rfl, rfl, rfl, by decide +kernel, rfl, by decide +kernel, by decide +kernel⟩
abbrev s_relink_text : Stmt := top 22
theorem sc_relink_text : FnScope ["relink", "path", "cut", "hosts"] ["relink"] (defScope s_relink_text) := ⟨rfl, rfl, rfl, by decide +kernel, rfl, by decide +kernel, by decide +kernel⟩
abbrev s_relink_from : Stmt := top 23
theorem sc_relink_from : FnScope ["hosts", "cut", "path"] ["hosts", "cut"] (defScope s_relink_from) := ⟨rfl, rfl, rfl, by decide +kernel, rfl, by decide +kernel, by decide +kernel⟩
abbrev s_has_event_form : Stmt := top 26
theorem sc_has_event_form : FnScope ["value"] ["value"] (defScope s_has_event_form) := ⟨rfl, rfl, rfl, by decide +kernel, rfl, by decide +kernel, by decide +kernel⟩
abbrev s_is_event : Stmt := top 28
theorem sc_is_event : FnScope ["value", "parts", "part"] ["value"] (defScope s_is_event) := ⟨rfl, rfl, rfl, by decide +kernel, rfl, by decide +kernel, by decide +kernel⟩
abbrev s_event_text : Stmt := top 29
theorem sc_event_text : FnScope ["event"] ["event"] (defScope s_event_text) := ⟨rfl, rfl, rfl, by decide +kernel, rfl, by decide +kernel, by decide +kernel⟩
abbrev s_parse_event : Stmt := top 30
theorem sc_parse_event : FnScope ["text", "event"] ["text"] (defScope s_parse_event) := ⟨rfl, rfl, rfl, by decide +kernel, rfl, by decide +kernel, by decide +kernel⟩
abbrev s_event_from : Stmt := top 31
theorem sc_event_from : FnScope ["parts", "path", "cut"] ["parts"] (defScope s_event_from) := ⟨rfl, rfl, rfl, by decide +kernel, rfl, by decide +kernel, by decide +kernel⟩
abbrev s_law_rng : Stmt := top 33
theorem sc_law_rng : FnScope ["_law_script", "_law_k", "_law_cell"] ["_law_script", "_law_k"] (defScope s_law_rng) := ⟨rfl, rfl, rfl, by decide +kernel, rfl, by decide +kernel, by decide +kernel⟩
abbrev s_law_draw : Stmt := top 34
theorem sc_law_draw : FnScope ["_law_rng_here", "_law_many", "_law_digit"] ["_law_rng_here", "_law_many"] (defScope s_law_draw) := ⟨rfl, rfl, rfl, by decide +kernel, rfl, by decide +kernel, by decide +kernel⟩
abbrev s_law_names : Stmt := top 35
theorem sc_law_names : FnScope ["_law_rng_here", "_law_many", "_law_letters", "_law_found", "_law_k", "_law_size", "_law_name", "_law_kind", "_law_turn", "_law_letter"] ["_law_rng_here", "_law_many"] (defScope s_law_names) := ⟨rfl, rfl, rfl, by decide +kernel, rfl, by decide +kernel, by decide +kernel⟩
abbrev s_law_shuffled : Stmt := top 36
theorem sc_law_shuffled : FnScope ["_law_rng_here", "_law_some", "_law_rest", "_law_k"] ["_law_rng_here", "_law_some"] (defScope s_law_shuffled) := ⟨rfl, rfl, rfl, by decide +kernel, rfl, by decide +kernel, by decide +kernel⟩
abbrev s_law_odd : Stmt := top 37
theorem sc_law_odd : FnScope ["_law_rng_here", "_law_some"] ["_law_rng_here"] (defScope s_law_odd) := ⟨rfl, rfl, rfl, by decide +kernel, rfl, by decide +kernel, by decide +kernel⟩
abbrev s_law_is_name : Stmt := top 38
theorem sc_law_is_name : FnScope ["_law_value", "_law_sign"] ["_law_value"] (defScope s_law_is_name) := ⟨rfl, rfl, rfl, by decide +kernel, rfl, by decide +kernel, by decide +kernel⟩
abbrev s_law_is_word : Stmt := top 39
theorem sc_law_is_word : FnScope ["_law_value", "_law_sign"] ["_law_value"] (defScope s_law_is_word) := ⟨rfl, rfl, rfl, by decide +kernel, rfl, by decide +kernel, by decide +kernel⟩
abbrev s_law_number : Stmt := top 40
theorem sc_law_number : FnScope ["_law_word", "_law_sign"] ["_law_word"] (defScope s_law_number) := ⟨rfl, rfl, rfl, by decide +kernel, rfl, by decide +kernel, by decide +kernel⟩
abbrev s_law_drawn_word : Stmt := top 41
theorem sc_law_drawn_word : FnScope ["_law_rng_here", "_law_signs", "_law_size", "_law_turn"] ["_law_rng_here"] (defScope s_law_drawn_word) := ⟨rfl, rfl, rfl, by decide +kernel, rfl, by decide +kernel, by decide +kernel⟩
abbrev s_law_drawn : Stmt := top 42
theorem sc_law_drawn : FnScope ["_law_rng_here", "_law_kind", "_law_names_here", "_law_way"] ["_law_rng_here", "_law_kind"] (defScope s_law_drawn) := ⟨rfl, rfl, rfl, by decide +kernel, rfl, by decide +kernel, by decide +kernel⟩
abbrev s_law_is_relink : Stmt := top 43
theorem sc_law_is_relink : FnScope ["_law_parts", "_law_way", "_law_at", "_law_name"] ["_law_parts"] (defScope s_law_is_relink) := ⟨rfl, rfl, rfl, by decide +kernel, rfl, by decide +kernel, by decide +kernel⟩
abbrev s_law_is_event : Stmt := top 44
theorem sc_law_is_event : FnScope ["_law_value", "_law_sizes", "_law_part"] ["_law_value"] (defScope s_law_is_event) := ⟨rfl, rfl, rfl, by decide +kernel, rfl, by decide +kernel, by decide +kernel⟩
abbrev s_law_text : Stmt := top 45
theorem sc_law_text : FnScope ["_law_value"] ["_law_value"] (defScope s_law_text) := ⟨rfl, rfl, rfl, by decide +kernel, rfl, by decide +kernel, by decide +kernel⟩
abbrev s_law_read : Stmt := top 46
theorem sc_law_read : FnScope ["_law_said", "_law_words", "_law_value"] ["_law_said"] (defScope s_law_read) := ⟨rfl, rfl, rfl, by decide +kernel, rfl, by decide +kernel, by decide +kernel⟩
abbrev s_law_changed : Stmt := top 47
theorem sc_law_changed : FnScope ["_law_rng_here", "_law_value", "_law_at", "_law_way"] ["_law_rng_here", "_law_value"] (defScope s_law_changed) := ⟨rfl, rfl, rfl, by decide +kernel, rfl, by decide +kernel, by decide +kernel⟩
abbrev s_law_text_changed : Stmt := top 48
theorem sc_law_text_changed : FnScope ["_law_rng_here", "_law_said", "_law_at", "_law_sign", "_law_some"] ["_law_rng_here", "_law_said"] (defScope s_law_text_changed) := ⟨rfl, rfl, rfl, by decide +kernel, rfl, by decide +kernel, by decide +kernel⟩
abbrev s_law_told : Stmt := top 49
theorem sc_law_told : FnScope ["_law_way", "_law_value", "_law_told_here", "e"] ["_law_way", "_law_value"] (defScope s_law_told) := ⟨rfl, rfl, rfl, by decide +kernel, rfl, by decide +kernel, by decide +kernel⟩
abbrev s_law_both_right : Stmt := top 50
theorem sc_law_both_right : FnScope ["_law_value", "_law_said", "_law_due", "_law_found", "_law_expected"] ["_law_value", "_law_said"] (defScope s_law_both_right) := ⟨rfl, rfl, rfl, by decide +kernel, rfl, by decide +kernel, by decide +kernel⟩
abbrev s_law : Stmt := top 51
theorem sc_law : FnScope ["_law_script", "_law_k", "_law_rng_here", "_law_value", "_law_said", "_law_turn"] ["_law_script"] (defScope s_law) := ⟨rfl, rfl, rfl, by decide +kernel, rfl, by decide +kernel, by decide +kernel⟩
end My

namespace My
open PySem PySem.Spec PyProof.Rows L2 Gy Xl Xs Xt
/-! ### the law's numbers: the pot, a draw, a pick -/
/-- the list of two numbers that is drawn from -/
def Rng (H : Hp) (r : Addr) : Prop := ∃ x y : Int, H r = some (.lst [.int x, .int y]) ∧ 0 ≤ x ∧ 0 ≤ y ∧ y < 1099511627776
theorem Rng.ne {H : Hp} {r l : Addr} (h : Rng H r) (hl : H l = none) : l ≠ r := fun z => by
  obtain ⟨x, y, e, _⟩ := h
  rw [← z, hl] at e
  cases e
theorem Rng.upd {H : Hp} {r l : Addr} {o : HO} (h : Rng H r) (hl : H l = none) : Rng (upd H l o) r := by
  obtain ⟨x, y, e, h2⟩ := id h
  exact ⟨x, y, by rw [upd_ne (h.ne hl).symm]; exact e, h2⟩
theorem Rng.upd2 {H : Hp} {r l : Addr} {o : HO} (h : Rng H r) (hl : l ≠ r) : Rng (L2.upd H l o) r := by
  obtain ⟨x, y, e, h2⟩ := id h
  exact ⟨x, y, by rw [upd_ne hl.symm]; exact e, h2⟩
theorem Rng.same {H H' : Hp} {r : Addr} (h : Rng H r) (s : Same H H') : Rng H' r := by
  obtain ⟨x, y, e, h2⟩ := h
  exact ⟨x, y, s _ _ e, h2⟩
section
variable {P : Program} {w : World} {K : PySem.W.Frag} {mg : Str → Option Value} {base : Heap}
def spPot (K : PySem.W.Frag) : Sp := fun vs H Q _ => ∃ (a : Addr) (ns : List Int) (k : Nat), vs = [.ref a, .int (k : Int)] ∧ SqL K H a (ns.map V.int) ∧ k ≤ 100 ∧
  ∀ H' p, Same H H' → H p = none → Rng H' p → Q (.ref p) H'
theorem max_nn (j : Int) : 0 ≤ (if j > 0 then j else 0) := by
  split <;> omega
theorem y_lo (z : Int) (k : Nat) : 0 ≤ z % 2147483587 + 211 * (k : Int) + 5 := by
  have := Int.emod_nonneg z (by decide : (2147483587 : Int) ≠ 0)
  omega
theorem y_hi (z : Int) (k : Nat) (h : k ≤ 100) : z % 2147483587 + 211 * (k : Int) + 5 < 1099511627776 := by
  have := Int.emod_lt_of_pos z (by decide : (0 : Int) < 2147483587)
  omega
theorem ok_pot {f : Addr} {fd : FuncData} (F : Fun K "_law_rng" "_law_rng" s_law_rng f fd) (Y : Bn mg) : FnOk P w K mg base CX0 1 f fd ["_law_script", "_law_k"] (spPot K) := by
  refine F.ok sc_law_rng (fun vs H Q E h => ?_) (fun cdv A outer s H vs Q E hr h => ?_)
  · obtain ⟨a, ns, k, rfl, _⟩ := h
    rfl
  · obtain ⟨a, ns, k, rfl, hS, hk, q⟩ := h
    refine ⟨_, (pss_cons (ps_set (i := 2) sc_law_rng.nd rfl (.inl rfl) (pe_ifExp (pt_cmpR op_lt (pv 1) (pe_callB call_len_seq (by rfl) Y.len PySem.boot_len (pa_cons (pv 0) pa_nil)) (nomark _)) (pe_ix ix_list (pv 0) (pv 1) (fun _ _ => rfl)) (pe_op op_add (pe_op op_mul pe_int (pv 1)) pe_int)))
 (pss_one (ps_ret (pe_lst (pa_cons (pe_callB (call_max2 rfl) (by rfl) Y.max (by decide +kernel) (pa_cons pe_int (pa_cons (pe_op op_sub (pe_callB call_abs (by rfl) Y.abs (by decide +kernel) (pa_cons (pv 2) pa_nil)) (pe_op op_pow pe_int pe_int)) pa_nil))) (pa_cons (pe_op op_add (pe_op op_add (pe_op op_mod (pe_callB call_abs (by rfl) Y.abs (by decide +kernel) (pa_cons (pv 2) pa_nil)) pe_int) (pe_op op_mul pe_int (pv 1))) pe_int) pa_nil)))))), ?_⟩
    refine ⟨_, rfl, _, rfl, a, _, rfl, .inl hS, _, _, rfl, rfl, _, rfl, ite2 (fun c1 => ?A) (fun c1 => ?B)⟩
    case' A =>
      have hk2 : k < ns.length := by
        have := of_decide_eq_true c1
        rw [List.length_map] at this
        omega
      refine ⟨_, rfl, _, rfl, a, _, _, .int ns[k], rfl, rfl, hS, atI_nat (j := k) (by rw [List.getElem?_map, List.getElem?_eq_getElem hk2]; rfl), ?_⟩
    case' B =>
      refine ⟨_, rfl, 7, _, rfl, rfl, .inl ⟨by decide, by decide⟩, _, _, rfl, rfl, ?_⟩
    all_goals
      refine ⟨_, rfl, _, rfl, 10, 18, rfl, rfl, ⟨by decide, by decide, by decide⟩, _, _, rfl, rfl, 0, _, rfl, ?_⟩
      refine ⟨_, rfl, _, rfl, _, _, rfl, rfl, (by decide : (0 : Int) < 2147483587), _, rfl, 211, _, rfl, rfl, .inl ⟨by decide, by decide⟩, _, _, rfl, rfl, _, _, rfl, rfl, ?_⟩
      refine ⟨(by show 2 ≤ sizeLine; decide), fun p hp => ?_⟩
      exact q _ p (same_upd hp) hp ⟨_, _, upd_same, max_nn _, y_lo _ k, y_hi _ k hk⟩
def spDraw : Sp := fun vs H Q _ => ∃ (r : Addr) (m : Int), vs = [.ref r, .int m] ∧ Rng H r ∧ 0 < m ∧ m < 1180591620717411303424 ∧
  ∀ H' d, But r H H' → Rng H' r → 0 ≤ d → d < m → Q (.int d) H'
theorem lg70 {m : Int} (m0 : 0 < m) (m1 : m < 1180591620717411303424) : m.natAbs.log2 < 9000 := by
  have h : m.natAbs < 2 ^ 70 := by
    show m.natAbs < 1180591620717411303424
    omega
  exact Nat.lt_of_lt_of_le ((Nat.log2_lt (by omega)).mpr h) (by decide)
theorem ok_draw {f : Addr} {fd : FuncData} (F : Fun K "_law_draw" "_law_draw" s_law_draw f fd) (Y : Bn mg) : FnOk P w K mg base CX0 1 f fd ["_law_rng_here", "_law_many"] spDraw := by
  refine F.ok sc_law_draw (fun vs H Q E h => ?_) (fun cdv A outer s H vs Q E hr h => ?_)
  · obtain ⟨r, m, rfl, _⟩ := h
    rfl
  · obtain ⟨r, m, rfl, ⟨x, y, hR, x0, y0, y1⟩, m0, m1, q⟩ := h
    refine ⟨_, (pss_cons (ps_if (pt_cmpR op_gt (pe_ix ix_list (pv 0) pe_int (fun _ _ => rfl)) pe_int (nomark _))
 (pss_cons (ps_asg (pe_callB call_divmodW (by rfl) Y.divmod (by decide +kernel) (pa_cons (pe_ix ix_list (pv 0) pe_int (fun _ _ => rfl)) (pa_cons (pv 1) pa_nil))) (pg_tup (by rfl) (pgs_cons (pg_sub (pv 0) pe_int set_list) (pgs_cons (pg_name (i := 2) sc_law_draw.nd rfl (Or.inl rfl)) pgs_nil))))
 (pss_one (ps_ret (pv 2))))
 pss_nil)
 (pss_cons (ps_asg (pe_op op_mod (pe_op op_add (pe_op op_mul (pe_ix ix_list (pv 0) pe_int (fun _ _ => rfl)) pe_int) pe_int) pe_int) (pg_sub (pv 0) pe_int set_list))
 (pss_one (ps_ret (pe_op op_mod (pe_op op_fdiv (pe_op op_mod (pe_op op_mul (pe_ix ix_list (pv 0) pe_int (fun _ _ => rfl)) (pe_ix ix_list (pv 0) pe_int (fun _ _ => rfl))) pe_int) pe_int) (pv 1)))))), ?_⟩
    refine ⟨_, rfl, r, _, 0, .int x, rfl, rfl, SqL.of hR, atI_nat (j := 0) rfl, _, _, rfl, rfl, _, rfl, ite2 (fun c1 => ?_) (fun c1 => ?_)⟩
    · refine ⟨_, rfl, r, _, 0, .int x, rfl, rfl, SqL.of hR, atI_nat (j := 0) rfl, _, rfl, x, m, rfl, ⟨m0, PyProof.noPylong_of_log2 (lg70 m0 m1)⟩, fun p hp => ?_⟩
      have npr : r ≠ p := ne_of_none hR hp
      refine ⟨p, _, rfl, SqT.of upd_same, rfl, _, _, rfl, ?_⟩
      refine ⟨_, rfl, r, _, 0, 0, rfl, rfl, (by rw [upd_ne npr]; exact hR), rfl, ?_⟩
      refine ⟨_, _, rfl, rfl, ?_⟩
      refine ⟨_, rfl, q _ _ ?_ ⟨x / m, y, upd_same, Int.ediv_nonneg x0 (Int.le_of_lt m0), y0, y1⟩ (Int.emod_nonneg _ (by omega)) (Int.emod_lt_of_pos _ m0)⟩
      intro b o nb e
      rw [upd_ne nb, upd_ne (ne_of_none e hp)]
      exact e
    · refine ⟨_, rfl, r, _, 1, .int y, rfl, rfl, SqL.of hR, atI_nat (j := 1) rfl, y, 40692, rfl, rfl, .inl ⟨by omega, by omega⟩, _, _, rfl, rfl, _, _, rfl, rfl, (by decide : (0 : Int) < 2147483399), ?_⟩
      refine ⟨_, rfl, r, _, 1, 1, rfl, rfl, hR, rfl, ?_⟩
      have z0 := Int.emod_nonneg (y * 40692 + 12211) (by decide : (2147483399 : Int) ≠ 0)
      have z1 := Int.emod_lt_of_pos (y * 40692 + 12211) (by decide : (0 : Int) < 2147483399)
      refine ⟨_, rfl, r, _, 1, _, rfl, rfl, SqL.of upd_same, atI_nat (j := 1) rfl, _, rfl, r, _, 1, _, rfl, rfl, SqL.of upd_same, atI_nat (j := 1) rfl, _, _, rfl, rfl, .inl ⟨by omega, by omega⟩, ?_⟩
      refine ⟨_, _, rfl, rfl, (by decide : (0 : Int) < 2147483323), _, 17, rfl, rfl, ⟨by decide, by decide⟩, _, rfl, _, m, rfl, rfl, m0, ?_⟩
      refine q _ _ ?_ ⟨x, _, upd_same, x0, z0, by omega⟩ (Int.emod_nonneg _ (by omega)) (Int.emod_lt_of_pos _ m0)
      intro b o nb e
      rw [upd_ne nb]
      exact e
end
end My

namespace My
open PySem PySem.Spec PyProof.Rows L2 Gy Xl Xs Xt
/-! ### drawn host names: texts of 1 to 8 letters, all different -/
def LET : Str := "abcdefghijklmnopqrstuvwxyz"
/-- a text of 1 to 8 letters -/
def Nm (x : Str) : Prop := 1 ≤ x.length ∧ x.length ≤ 8 ∧ ∀ c ∈ x.cps.toList, c ∈ LET.cps.toList
theorem mem_cat {a b : Str} {c : Nat} (h : c ∈ (a ++ b).cps.toList) : c ∈ a.cps.toList ∨ c ∈ b.cps.toList := by
  have e : (a ++ b).cps.toList = a.cps.toList ++ b.cps.toList := by
    show (a.cps ++ b.cps).toList = _
    rw [Array.toList_append]
  rw [e] at h
  exact List.mem_append.mp h
theorem join_in {p : Nat → Prop} : ∀ ys : List Str, (∀ y ∈ ys, ∀ c ∈ y.cps.toList, p c) → ∀ c ∈ (Str.join "" ys).cps.toList, p c
  | [], _, c, h => by
    have h' : c ∈ ([] : List Nat) := h
    cases h'
  | [y], h, c, hc => h y List.mem_cons_self c hc
  | y :: z :: r, h, c, hc => by
    have hc' : c ∈ (y ++ "" ++ Str.join "" (z :: r)).cps.toList := hc
    rcases mem_cat hc' with hc' | hc'
    · rcases mem_cat hc' with hc' | hc'
      · exact h y List.mem_cons_self c hc'
      · have h' : c ∈ ([] : List Nat) := hc'
        cases h'
    · exact join_in (z :: r) (fun u hu => h u (List.mem_cons_of_mem _ hu)) c hc'
theorem join_len : ∀ ys : List Str, (∀ y ∈ ys, y.length = 1) → (Str.join "" ys).length = ys.length
  | [], _ => rfl
  | [y], h => h y List.mem_cons_self
  | y :: z :: r, h => by
    have ih := join_len (z :: r) fun u hu => h u (List.mem_cons_of_mem _ hu)
    have hy := h y List.mem_cons_self
    show (y ++ "" ++ Str.join "" (z :: r)).length = _
    rw [strLen_append, strLen_append, ih, hy]
    show 1 + 0 + (r.length + 1) = r.length + 1 + 1
    omega
theorem sum_ones : ∀ ys : List Str, (∀ y ∈ ys, y.length = 1) → (ys.map (·.length)).sum ≤ ys.length
  | [], _ => Nat.le_refl _
  | y :: r, h => by
    have h1 := h y List.mem_cons_self
    have h2 := sum_ones r fun z hz => h z (List.mem_cons_of_mem _ hz)
    rw [List.map_cons, List.sum_cons, List.length_cons]
    omega
theorem cut_some (x : Str) (n : Nat) : cutS x none (some (n : Int)) = ⟨(x.cps.toList.take (min n x.length)).toArray⟩ := by
  unfold cutS
  rw [HT.sIx_none, HT.sIx_nat, List.drop_zero, Nat.sub_zero]
/-- the first eight signs of a name with letters behind it -/
theorem nm_cut {x y : Str} (hx : Nm x) (hy : Nm y) : Nm (cutS (x ++ y) none (some 8)) := by
  have e := cut_some (x ++ y) 8
  have l : (x ++ y).length = x.length + y.length := strLen_append x y
  have l2 : (x ++ y).cps.toList.length = (x ++ y).length := Array.length_toList
  obtain ⟨h1, h2, h3⟩ := hx
  obtain ⟨k1, k2, k3⟩ := hy
  rw [show (some 8 : Option Int) = some ((8 : Nat) : Int) from rfl, e]
  refine ⟨?_, ?_, fun c hc => ?_⟩
  · show 1 ≤ ((x ++ y).cps.toList.take (min 8 (x ++ y).length)).toArray.size
    rw [List.size_toArray, List.length_take]
    omega
  · show ((x ++ y).cps.toList.take (min 8 (x ++ y).length)).toArray.size ≤ 8
    rw [List.size_toArray, List.length_take]
    omega
  · have hc' : c ∈ (x ++ y).cps.toList.take (min 8 (x ++ y).length) := by
      simpa using hc
    rcases mem_cat (List.mem_of_mem_take hc') with z | z
    · exact h3 c z
    · exact k3 c z
/-- seven signs of a name and a letter -/
def tl (x : Str) (c : Nat) : Str := cutS x none (some 7) ++ ⟨#[c]⟩
theorem tl_cps (x : Str) (c : Nat) : (tl x c).cps.toList = x.cps.toList.take (min 7 x.length) ++ [c] := by
  unfold tl
  rw [show (some 7 : Option Int) = some ((7 : Nat) : Int) from rfl, cut_some]
  show ((x.cps.toList.take (min 7 x.length)).toArray ++ #[c]).toList = _
  rw [Array.toList_append]
theorem tl_nm {x : Str} {c : Nat} (hx : Nm x) (hc : c ∈ LET.cps.toList) : Nm (tl x c) := by
  have e := tl_cps x c
  have l : (tl x c).length = (tl x c).cps.toList.length := Array.length_toList.symm
  have l2 : x.cps.toList.length = x.length := Array.length_toList
  have l3 : (x.cps.toList.take (min 7 x.length) ++ [c]).length = min 7 x.length + 1 := by
    rw [List.length_append, List.length_take, l2]
    simp
  rw [e, l3] at l
  refine ⟨by omega, by omega, fun d hd => ?_⟩
  rw [e] at hd
  rcases List.mem_append.mp hd with z | z
  · exact hx.2.2 d (List.mem_of_mem_take z)
  · rw [List.mem_singleton.mp z]
    exact hc
theorem tl_inj (x : Str) (c d : Nat) (h : tl x c = tl x d) : c = d := by
  have e : (tl x c).cps.toList = (tl x d).cps.toList := by rw [h]
  rw [tl_cps, tl_cps] at e
  have e2 := List.append_cancel_left e
  injection e2
theorem inV_strs (z : Str) : ∀ xs : List Str, inV (.str z) (xs.map V.str) = decide (z ∈ xs)
  | [] => rfl
  | x :: xs => by
    have ih := inV_strs z xs
    unfold inV at ih ⊢
    rw [List.map_cons, List.any_cons, ih]
    show (x == z || decide (z ∈ xs)) = decide (z ∈ x :: xs)
    by_cases e : x = z
    · subst e
      simp
    · rw [beq_eq_false_iff_ne.mpr e, Bool.false_or]
      congr 1
      rw [List.mem_cons, eq_iff_iff]
      exact ⟨.inr, fun h => h.resolve_left fun u => e u.symm⟩
theorem flat_strs : ∀ xs : List Str, (xs.map V.str).all flatV = true
  | [] => rfl
  | x :: xs => by
    rw [List.map_cons, List.all_cons, flat_strs xs]
    rfl
theorem len_le_of_sub {α : Type} [BEq α] [LawfulBEq α] : ∀ {l m : List α}, l.Nodup → (∀ x ∈ l, x ∈ m) → l.length ≤ m.length
  | [], _, _, _ => Nat.zero_le _
  | x :: l, m, nd, h => by
    rw [List.nodup_cons] at nd
    have hx := h x List.mem_cons_self
    have ih := len_le_of_sub (l := l) (m := m.erase x) nd.2 fun y hy => (List.mem_erase_of_ne (fun e : y = x => nd.1 (by rw [← e]; exact hy))).mpr (h y (List.mem_cons_of_mem _ hy))
    rw [List.length_erase_of_mem hx] at ih
    have : 0 < m.length := List.length_pos_of_mem hx
    rw [List.length_cons]
    omega
theorem nd_map {α β : Type} {f : α → β} (inj : ∀ a b, f a = f b → a = b) : ∀ {l : List α}, l.Nodup → (l.map f).Nodup
  | [], _ => List.nodup_nil
  | x :: l, h => by
    rw [List.nodup_cons] at h
    rw [List.map_cons, List.nodup_cons]
    refine ⟨fun z => ?_, nd_map inj h.2⟩
    obtain ⟨y, hy, e⟩ := List.mem_map.mp z
    exact h.1 (inj _ _ e ▸ hy)
theorem nodup_snoc {α : Type} {xs : List α} {x : α} (h : xs.Nodup) (n : x ∉ xs) : (xs ++ [x]).Nodup := by
  rw [List.nodup_append]
  refine ⟨h, by simp, fun a ha b hb e => n ?_⟩
  rw [List.mem_singleton.mp hb] at e
  rw [← e]
  exact ha
/-- what is tried for a name -/
def triesOf (x : Str) : List Str := x :: LET.cps.toList.map (tl x)
theorem tries_nm {x : Str} (h : Nm x) : ∀ y ∈ triesOf x, Nm y := fun y hy => by
  rcases List.mem_cons.mp hy with rfl | hy
  · exact h
  · obtain ⟨c, hc, rfl⟩ := List.mem_map.mp hy
    exact tl_nm h hc
theorem tries_out {x : Str} {xs : List Str} (h : xs.length < 26) : ∃ z zs, (triesOf x).filter (fun y => decide (y ∉ xs)) = z :: zs := by
  cases e : (triesOf x).filter (fun y => decide (y ∉ xs)) with
  | cons z zs => exact ⟨z, zs, rfl⟩
  | nil =>
    rw [List.filter_eq_nil_iff] at e
    have nd : (LET.cps.toList.map (tl x)).Nodup := nd_map (tl_inj x) (by decide +kernel)
    have le := len_le_of_sub (m := xs) nd fun y hy => by
      have z := e y (List.mem_cons_of_mem _ hy)
      exact Decidable.of_not_not fun w => z (decide_eq_true w)
    rw [List.length_map, show LET.cps.toList.length = 26 by decide +kernel] at le
    omega
theorem dps_strs {K : PySem.W.Frag} {H : Hp} : ∀ xs : List Str, DpAll K H (xs.map V.str) (xs.map PyData.str)
  | [] => .nil
  | x :: xs => .cons (.str x) (dps_strs xs)
theorem nm_ok {x : Str} (h : Nm x) : PyData.strOk x = true := by
  unfold PyData.strOk
  rw [← Array.all_toList, List.all_eq_true]
  intro c hc
  have z : ∀ d ∈ LET.cps.toList, d < 0x110000 := by decide +kernel
  exact decide_eq_true (z c (h.2.2 c hc))
theorem lay_strs : ∀ xs : List Str, (∀ x ∈ xs, Nm x) → PyData.canLayAll0 (xs.map PyData.str) = true
  | [], _ => rfl
  | b :: r, h => by
    show (PyData.strOk b && PyData.canLayAll0 (r.map PyData.str)) = true
    rw [nm_ok (h b List.mem_cons_self), lay_strs r fun x hx => h x (List.mem_cons_of_mem _ hx)]
    rfl
theorem deep_strs : ∀ xs : List Str, PyData.depthAll (xs.map PyData.str) = 0
  | [] => rfl
  | b :: r => by
    show max 0 (PyData.depthAll (r.map PyData.str)) = 0
    rw [deep_strs r]
    rfl
theorem sh_strs (xs : List Str) (h : ∀ x ∈ xs, Nm x) : SeqAt.shaped (.list (xs.map PyData.str)) = true := by
  unfold SeqAt.shaped
  rw [show PyData.canLay0 (.list (xs.map PyData.str)) = true from lay_strs xs h, show PyData.depth (.list (xs.map PyData.str)) = 1 by show PyData.depthAll _ + 1 = 1; rw [deep_strs]]
  decide
/-- the law's names of two letters -/
def qq (c : Nat) : Str := ⟨#[c]⟩ ++ "q"
theorem qq_nm {c : Nat} (h : c ∈ LET.cps.toList) : Nm (qq c) := by
  refine ⟨by show 1 ≤ (⟨#[c]⟩ ++ "q" : Str).length; rw [strLen_append]; exact Nat.le_add_right _ _, by show (⟨#[c]⟩ ++ "q" : Str).length ≤ 8; rw [strLen_append]; exact (show 1 + 1 ≤ 8 by decide), fun d hd => ?_⟩
  rcases mem_cat hd with z | z
  · have z' : d ∈ [c] := z
    rw [List.mem_singleton.mp z']
    exact h
  · have z' : d ∈ [113] := z
    rw [List.mem_singleton.mp z']
    decide +kernel
theorem qq_inj {c d : Nat} (h : qq c = qq d) : c = d := by
  have e : (qq c).cps.toList = (qq d).cps.toList := by rw [h]
  have e' : [c, 113] = [d, 113] := e
  injection e'
theorem qq_out {xs : List Str} (h : xs.length < 26) : ¬ ∀ c ∈ LET.cps.toList, qq c ∈ xs := fun all => by
  have nd : (LET.cps.toList.map qq).Nodup := by
    have n0 : LET.cps.toList.Nodup := by decide +kernel
    exact nd_map (fun a b e => qq_inj e) n0
  have := len_le_of_sub nd (m := xs) fun y hy => by
    obtain ⟨c, hc, rfl⟩ := List.mem_map.mp hy
    exact all c hc
  rw [List.length_map] at this
  have e : LET.cps.toList.length = 26 := by decide +kernel
  omega
section
variable {P : Program} {w : World} {K : PySem.W.Frag} {mg : Str → Option Value} {base : Heap}
theorem words_nm {x : Str} (h : x ∈ (["host", "link", "events", "ask", "yes", "bye", "message", "write"] : List Str)) : Nm x := by
  have z : ∀ y ∈ (["host", "link", "events", "ask", "yes", "bye", "message", "write"] : List Str), 1 ≤ y.length ∧ y.length ≤ 8 ∧ ∀ c ∈ y.cps.toList, c ∈ LET.cps.toList := by decide +kernel
  exact z x h
def spNames : Sp := fun vs H Q _ => ∃ (r : Addr) (n : Nat), vs = [.ref r, .int (n : Int)] ∧ Rng H r ∧ n ≤ 20 ∧
  ∀ (H' : Hp) (L : Addr) (xs : List Str), But r H H' → Rng H' r → H L = none → H' L = some (.lst (xs.map V.str)) → xs.length = n → (∀ x ∈ xs, Nm x) → xs.Nodup → Q (.ref L) H'
theorem ok_names {f : Addr} {fd : FuncData} (F : Fun K "_law_names" "_law_names" s_law_names f fd) (Y : Bn mg) (G_law_draw : Fk P w K mg base CX0 1 "_law_draw" ["_law_rng_here", "_law_many"] spDraw) : FnOk P w K mg base CX0 2 f fd ["_law_rng_here", "_law_many"] spNames := by
  refine F.ok sc_law_names (fun vs H Q E h => ?_) (fun cdv A outer s H vs Q E hr h => ?_)
  · obtain ⟨r, n, rfl, _⟩ := h
    rfl
  · obtain ⟨r, n, rfl, hR, n20, q⟩ := h
    have hu64 := hr.units
    refine ⟨_, (pss_cons (ps_set (i := 2) sc_law_names.nd rfl (.inr rfl) pe_str)
 (pss_cons (ps_set (i := 3) sc_law_names.nd rfl (.inr rfl) (pe_lst pa_nil))
 (pss_cons (ps_for PassesOwn.never rfl (pi_range1 (by rfl) Y.range (pa_cons (pv 1) pa_nil)) (pg_name (i := 4) sc_law_names.nd rfl (Or.inl rfl))
 (pss_cons (ps_set (i := 5) sc_law_names.nd rfl (.inl rfl) (pe_ix ix_list (pe_lst (pa_cons pe_int (pa_cons pe_int (pa_cons pe_int (pa_cons pe_int pa_nil))))) (pe_callF G_law_draw (hr.mono (by decide)) (by rfl) pass0 (pa_cons (pv 0) (pa_cons pe_int pa_nil))) (fun _ _ => rfl)))
 (pss_cons (ps_set (i := 6) sc_law_names.nd rfl (.inl rfl) (pe_join pe_str (pe_lc (own := [("_law_turn", 8)]) (g := gName 8) (tt := tYes) rfl sc_law_names.nd (pi_range1 (by rfl) Y.range (pa_cons (pv 5) pa_nil)) (blkOk_by (N := ["_law_rng_here", "_law_many", "_law_letters", "_law_found", "_law_k", "_law_size", "_law_name", "_law_kind", "_law_turn", "_law_letter"]) (sc := defScope s_law_names) (by decide +kernel)) (fun _ _ _ _ _ => (pg_name (i := 8) sc_law_names.nd rfl (Or.inl rfl))) (fun _ _ _ _ _ => pts_nil) (fun _ _ _ _ _ => (pe_ix ix_str (pv 2) (pe_callF G_law_draw (hr.mono (by decide)) (by rfl) pass0 (pa_cons (pv 0) (pa_cons pe_int pa_nil))) (fun _ _ => rfl))))))
 (pss_cons (ps_set (i := 7) sc_law_names.nd rfl (.inl rfl) (pe_callF G_law_draw (hr.mono (by decide)) (by rfl) pass0 (pa_cons (pv 0) (pa_cons pe_int pa_nil))))
 (pss_cons (ps_if (pt_cmpR op_eq (pv 7) pe_int (nomark _))
 (pss_one (ps_set (i := 6) sc_law_names.nd rfl (.inl rfl) (pe_ix ix_list (pe_lst (pa_cons pe_str (pa_cons pe_str (pa_cons pe_str (pa_cons pe_str (pa_cons pe_str (pa_cons pe_str (pa_cons pe_str (pa_cons pe_str pa_nil))))))))) (pe_callF G_law_draw (hr.mono (by decide)) (by rfl) pass0 (pa_cons (pv 0) (pa_cons pe_int pa_nil))) (fun _ _ => rfl))))
 (pss_one (ps_if (PW.pt (pw_and (pt_cmpR op_lt (pv 7) pe_int (nomark _)) (pw_and1 (pt_cmpR (op_neD hu64) (pv 3) (pe_lst pa_nil) (nomark _)))))
 (pss_one (ps_set (i := 6) sc_law_names.nd rfl (.inl rfl) (pe_slice sl_str (pe_op op_add_str (pe_ix ix_list (pv 3) (pe_un un_neg pe_int) (fun _ _ => rfl)) (pv 6)) po_none (po_some pe_int))))
 pss_nil)))
 (pss_cons (ps_if (pt_cmpR op_in_seq (pv 6) (pv 3) rfl)
 (pss_one (ps_set (i := 6) sc_law_names.nd rfl (.inl rfl) (pe_ix ix_list (pe_lc (own := [("_law_letter", 9)]) (g := gName 9) (tt := tTest (tOp (rIn K true) (tOp _ (tVar 9) (tC (.str "q"))) (tVar 3))) rfl sc_law_names.nd (pi_str (pv 2)) (blkOk_by (N := ["_law_rng_here", "_law_many", "_law_letters", "_law_found", "_law_k", "_law_size", "_law_name", "_law_kind", "_law_turn", "_law_letter"]) (sc := defScope s_law_names) (by decide +kernel)) (fun _ _ _ _ _ => (pg_name (i := 9) sc_law_names.nd rfl (Or.inl rfl))) (fun _ _ _ _ _ => (pts_one (pt_cmpR op_notIn_seq (pe_op op_add_str (pv 9) pe_str) (pv 3) rfl))) (fun _ _ _ _ _ => (pe_op op_add_str (pv 9) pe_str))) pe_int (fun _ _ => rfl))))
 pss_nil)
 (pss_one (ps_expr (pe_bm PySem.F.plainAttrs_list PySem.F.slot_list_append PySem.F.type_list_append mt_append (pv 3) (pa_cons (pv 6) pa_nil))))))))))
 (pss_one (ps_ret (pv 3)))))), ?_⟩
    refine ⟨Nat.zero_le _, fun L hL0 => ?_⟩
    have nL : L ≠ r := hR.ne hL0
    refine ⟨_, rfl, (n : Int), rfl, by omega, by omega, ?_⟩
    refine for_it (walk_range (lo := 0) (n := ((n : Int) - 0).toNat)) (fun i σ H' => (∃ a b c d e f, σ = [some (.ref r), some (.int (n : Int)), some (.str LET), some (.ref L), a, b, c, d, e, f]) ∧ But r H H' ∧ Rng H' r ∧
        ∃ xs : List Str, H' L = some (.lst (xs.map V.str)) ∧ xs.length = i ∧ (∀ x ∈ xs, Nm x) ∧ xs.Nodup)
      ⟨⟨_, _, _, _, _, _, rfl⟩, But.of (same_upd hL0), hR.upd hL0, [], upd_same, rfl, (fun _ z => nomatch z), List.nodup_nil⟩ (fun _ _ _ _ _ => trivial) ?_ ?_
    · rintro i y σ H1 H2 hi ⟨⟨a, b, c, d, e, f, rfl⟩, b1, R1, xs, hL, el, nm, nd⟩ ⟨rfl, rfl⟩
      have i20 : i < 20 := by omega
      -- the size
      refine ⟨(by show 4 ≤ sizeLine; decide), fun l hl => ?_⟩
      refine ⟨_, rfl, r, 4, rfl, R1.upd hl, by decide, by decide, fun H3 d3 b3 R3 d30 d31 => ?_⟩
      have nl : l ≠ r := R1.ne hl
      have hl3 := b3 l _ nl upd_same
      have hL3 := b3 L _ nL (same_upd hl L _ hL)
      have b03 : But r H H3 := b1.trans ((But.of (same_upd hl)).trans b3)
      obtain ⟨v, hv, mv⟩ := at_in (xs := [_, _, _, _]) d30 d31
      refine ⟨l, _, d3, v, rfl, rfl, SqL.of hl3, hv, ?_⟩
      have sz : ∃ m : Nat, v = .int (m : Int) ∧ 1 ≤ m ∧ m ≤ 8 := by
        simp only [List.mem_cons, List.not_mem_nil, or_false] at mv
        rcases mv with rfl | rfl | rfl | rfl
        · exact ⟨1, rfl, by decide, by decide⟩
        · exact ⟨1, rfl, by decide, by decide⟩
        · exact ⟨2, rfl, by decide, by decide⟩
        · exact ⟨8, rfl, by decide, by decide⟩
      clear mv hv hl3
      obtain ⟨m, rfl, m1, m8⟩ := sz
      -- the letters
      refine ⟨⟨_, rfl⟩, _, rfl, (m : Int), rfl, by omega, by omega, fun D hD => ?_⟩
      have nD : D ≠ r := R3.ne hD
      refine lc_it (walk_range (lo := 0) (n := ((m : Int) - 0).toNat)) (fun i H' => But r H3 H' ∧ Rng H' r ∧ ∃ ys : List Str, H' D = some (.lst (ys.map V.str)) ∧ ys.length = i ∧ (∀ y ∈ ys, y.length = 1) ∧ ∀ y ∈ ys, ∀ c ∈ y.cps.toList, c ∈ LET.cps.toList)
        ⟨But.of (same_upd hD), R3.upd hD, [], upd_same, rfl, (fun y z => nomatch z), fun y z => nomatch z⟩ (fun _ _ _ _ => trivial) ?_ ?_
      · rintro j y H4 H5 hj ⟨b4, R4, ys, hY, yl, y1, y2⟩ ⟨rfl, rfl⟩
        refine ⟨rfl, ?_⟩
        dsimp only [tYes]
        refine iteT ?_
        refine ⟨_, rfl, _, rfl, r, 26, rfl, R4, by decide, by decide, fun H6 d6 b6 R6 d60 d61 => ?_⟩
        obtain ⟨c, hc, mc⟩ := at_in (xs := LET.cps.toList) d60 d61
        refine ⟨LET, d6, c, rfl, rfl, (by decide), hc, _, b6 D _ nD hY, ?_, ?_, ?_, ys ++ [⟨#[c]⟩], ?_, ?_, ?_, ?_⟩
        · rw [List.length_map, yl]
          exact small200 (by omega)
        · exact (b4.trans b6).upd hD
        · obtain ⟨x1, z1, h1, h2⟩ := R6
          exact ⟨x1, z1, by rw [upd_ne nD.symm]; exact h1, h2⟩
        · rw [upd_same, List.map_append]
          rfl
        · rw [List.length_append, yl]
          rfl
        · intro y hy'
          rcases List.mem_append.mp hy' with z | z
          · exact y1 y z
          · rw [List.mem_singleton.mp z]
            rfl
        · intro y hy'
          rcases List.mem_append.mp hy' with z | z
          · exact y2 y z
          · rw [List.mem_singleton.mp z]
            intro c' hc'
            have hc2 : c' ∈ [c] := hc'
            rw [List.mem_singleton.mp hc2]
            exact mc
      rintro H4 ⟨b4, R4, ys, hY, yl, y1, y2⟩
      refine ⟨"", D, ys, rfl, rfl, .inl (SqL.of hY), ?_, ?_⟩
      · have e1 : (ys.map (·.length)).sum ≤ ys.length := sum_ones ys y1
        show (ys.map (·.length)).sum + ys.length * 0 ≤ 16777216
        omega
      rw [TL.join_eq]
      have nm0 : Nm (Str.join "" ys) := by
        have := join_len ys y1
        exact ⟨by omega, by omega, join_in ys y2⟩
      generalize Str.join "" ys = x0 at nm0 ⊢
      have hL4 := b4 L _ nL hL3
      have b04 := b03.trans b4
      clear b4 y1 y2 hY yl
      -- the kind
      refine ⟨_, rfl, r, 8, rfl, R4, by decide, by decide, fun H5 k b5 R5 k0 k1 => ?_⟩
      have hL5 := b5 L _ nL hL4
      have b05 := b04.trans b5
      clear b5 hL4 b04
      refine ⟨_, rfl, rfl, _, rfl, ite2 (fun c1 => ?A) (fun c1 => ?B)⟩
      case' A =>
        refine ⟨(by show 8 ≤ sizeLine; decide), fun l2 hl2 => ?_⟩
        refine ⟨_, rfl, r, 8, rfl, R5.upd hl2, by decide, by decide, fun H6 d6 b6 R6 d60 d61 => ?_⟩
        have nl2 : l2 ≠ r := R5.ne hl2
        have hl6 := b6 l2 _ nl2 upd_same
        have hL6 := b6 L _ nL (same_upd hl2 L _ hL5)
        have b06 : But r H H6 := b05.trans ((But.of (same_upd hl2)).trans b6)
        obtain ⟨v2, hv2, mv2⟩ := at_in (xs := (["host", "link", "events", "ask", "yes", "bye", "message", "write"] : List Str).map V.str) d60 d61
        refine ⟨l2, _, d6, v2, rfl, rfl, SqL.of hl6, hv2, ?_⟩
        obtain ⟨x9, mx, rfl⟩ := List.mem_map.mp mv2
        have nm1 := words_nm mx
        clear mv2 hv2 hl6 mx b6
      case' B =>
        refine ⟨_, rfl, k, 3, rfl, rfl, _, rfl, ite2 (fun c2 => ?C) (fun c2 => ?D)⟩
        case' C =>
          refine ⟨_, rfl, Nat.zero_le _, fun l2 hl2 => ?_⟩
          refine ⟨_, _, .lst (SqL.of (same_upd hl2 L _ hL5)) (dps_strs xs), .lst (SqL.of upd_same) .nil, sh_strs xs nm, rfl, _, rfl, ite2 (fun c3 => ?E) (fun c3 => ?G)⟩
          case' E =>
            obtain ⟨xs1, xl, ex⟩ : ∃ xs1 xl, xs = xs1 ++ [xl] := by
              cases xs with
              | nil => exact absurd c3 (by decide)
              | cons x t => exact ⟨_, _, (List.dropLast_concat_getLast (l := x :: t) (by simp)).symm⟩
            have nl := nm xl (by rw [ex]; exact List.mem_append_right _ List.mem_cons_self)
            have nm1 := nm_cut nl nm0
            refine ⟨_, rfl, 1, rfl, L, _, -1, .str xl, rfl, rfl, SqL.of (same_upd hl2 L _ hL5), (by rw [ex, List.map_append]; exact atI_last _ _), _, rfl, xl, x0, rfl, rfl, (by have := nl.2.1; have := nm0.2.1; exact Nat.le_of_lt (small200 (by omega))), 8, rfl, _, rfl, (by have := nl.2.1; have := nm0.2.1; rw [strLen_append]; exact Nat.le_of_lt (small200 (by omega))), ?_⟩
            have b06 := b05.trans (But.of (same_upd (o := .lst []) hl2))
            have R6 := R5.upd (o := .lst []) hl2
            have hL6 := same_upd (o := .lst []) hl2 L _ hL5
            generalize cutS (xl ++ x0) none (some 8) = x9 at nm1 ⊢
          case' G =>
            have nm1 := nm0
            generalize x0 = x9 at nm1 ⊢
            have b06 := b05.trans (But.of (same_upd (o := .lst []) hl2))
            have R6 := R5.upd (o := .lst []) hl2
            have hL6 := same_upd (o := .lst []) hl2 L _ hL5
        case' D =>
          have nm1 := nm0
          generalize x0 = x9 at nm1 ⊢
          have b06 := b05
          have R6 := R5
          have hL6 := hL5
      all_goals
        refine ⟨_, rfl, _, rfl, L, _, rfl, .inl (SqL.of hL6), rfl, flat_strs _, _, rfl, ite2 (fun c9 => ?_) (fun c9 => ?_)⟩
        · refine ⟨_, rfl, LET, rfl, fun D9 hD9 => ?_⟩
          refine lc_it (walk_str (z := LET)) (fun i H' => Same _ H' ∧ ∃ zs : List Str, H' D9 = some (.lst (zs.map V.str)) ∧ (∀ z ∈ zs, Nm z ∧ z ∉ xs) ∧ zs.length ≤ i ∧ (zs = [] → ∀ c ∈ LET.cps.toList.take i, qq c ∈ xs))
            ⟨same_upd hD9, [], upd_same, (fun _ z => nomatch z), Nat.le_refl _, fun _ _ z => nomatch z⟩ (fun _ _ _ _ => trivial) ?_ ?_
          · rintro j y H7 H8 hj ⟨sm, zs, hZ, hz, zl, z0⟩ ⟨rfl, c, hc, rfl⟩
            have hc' : LET.cps.toList[j]? = some c := by rw [Array.getElem?_toList]; exact hc
            have mc := List.mem_of_getElem? hc'
            refine ⟨rfl, ?_⟩
            refine ⟨_, rfl, ⟨#[c]⟩, "q", rfl, rfl, (show 1 + 1 ≤ sizeLine by decide), _, rfl, L, _, rfl, .inl (SqL.of (sm L _ hL6)), rfl, flat_strs _, _, rfl, ite2 (fun c8 => ?_) (fun c8 => ?_)⟩
            · refine ⟨_, rfl, ⟨#[c]⟩, "q", rfl, rfl, (show 1 + 1 ≤ sizeLine by decide), _, hZ, ?_, same_upd2 sm hD9, zs ++ [qq c], ?_, ?_, ?_, ?_⟩
              · rw [List.length_map]
                have : LET.cps.size = 26 := by decide +kernel
                exact small200 (by omega)
              · rw [upd_same, List.map_append]
                rfl
              · intro z mz
                rcases List.mem_append.mp mz with mz | mz
                · exact hz z mz
                · rw [List.mem_singleton.mp mz]
                  refine ⟨qq_nm mc, fun mx => ?_⟩
                  have c8' : (!inV (.str (qq c)) (xs.map V.str)) = true := c8
                  rw [inV_strs, decide_eq_true mx] at c8'
                  cases c8'
              · rw [List.length_append]
                exact Nat.succ_le_succ zl
              · intro z
                cases zs <;> cases z
            · refine ⟨sm, zs, hZ, hz, Nat.le_succ_of_le zl, fun e c' hc2 => ?_⟩
              rw [List.take_add_one, hc'] at hc2
              rcases List.mem_append.mp hc2 with hc2 | hc2
              · exact z0 e c' hc2
              · have hc3 : c' ∈ [c] := hc2
                rw [List.mem_singleton.mp hc3]
                have c8' : ¬ (!inV (.str (qq c)) (xs.map V.str)) = true := c8
                rw [inV_strs] at c8'
                cases z : decide (qq c ∈ xs) with
                | true => exact of_decide_eq_true z
                | false => exact absurd (by rw [z]; rfl) c8'
          · rintro H7 ⟨sm, zs, hZ, hz, zl, z0⟩
            cases zs with
            | nil =>
              refine absurd (z0 rfl) ?_
              rw [List.take_of_length_le (by rw [Array.length_toList]; exact Nat.le_refl _)]
              exact qq_out (by omega)
            | cons z zs =>
              obtain ⟨nz, oz⟩ := hz z List.mem_cons_self
              refine ⟨D9, _, 0, .str z, rfl, rfl, SqL.of hZ, atI_nat (j := 0) rfl, ?_⟩
              refine ⟨_, rfl, .inl ⟨rfl, _, SqL.of (sm L _ hL6)⟩, _, rfl, L, _, _, rfl, rfl, sm L _ hL6, (by rw [List.length_map]; exact small200 (by omega)), ⟨_, _, _, _, _, _, rfl⟩, ?_, ?_, xs ++ [z], ?_, ?_, ?_, nodup_snoc nd oz⟩
              · exact (b06.trans (But.of sm)).upd hL0
              · obtain ⟨x1, z1, h1, h2⟩ := R6.same sm
                exact ⟨x1, z1, by rw [upd_ne nL.symm]; exact h1, h2⟩
              · rw [upd_same, List.map_append]
                rfl
              · rw [List.length_append, el]
                rfl
              · intro x hx
                rcases List.mem_append.mp hx with hx | hx
                · exact nm x hx
                · rw [List.mem_singleton.mp hx]
                  exact nz
        · refine ⟨_, rfl, .inl ⟨rfl, _, SqL.of hL6⟩, _, rfl, L, _, _, rfl, rfl, hL6, (by rw [List.length_map]; exact small200 (by omega)), ⟨_, _, _, _, _, _, rfl⟩, b06.upd hL0, ?_, xs ++ [x9], ?_, ?_, ?_, nodup_snoc nd ?_⟩
          · obtain ⟨x1, z1, h1, h2⟩ := R6
            exact ⟨x1, z1, by rw [upd_ne nL.symm]; exact h1, h2⟩
          · rw [upd_same, List.map_append]
            rfl
          · rw [List.length_append, el]
            rfl
          · intro x hx
            rcases List.mem_append.mp hx with hx | hx
            · exact nm x hx
            · rw [List.mem_singleton.mp hx]
              exact nm1
          · intro mx
            exact absurd (by rw [inV_strs]; exact decide_eq_true mx) c9
    · rintro σ H1 ⟨⟨a, b, c, d, e, f, rfl⟩, b1, R1, xs, hL, el, nm, nd⟩
      exact ⟨_, rfl, q _ L xs b1 R1 hL0 hL (by omega) nm nd⟩
end
end My

namespace My
open PySem PySem.Spec PyProof.Rows L2 Gy Xl Xs Xt
/-! ### texts of some signs -/
def allIn (cs x : Str) : Bool := x.cps.toList.all fun c => decide (c ∈ cs.cps.toList)
def textOf (v : V) (cs : Str) (n : Int) : Bool := match v with
  | .str x => decide ((1 : Int) ≤ (x.length : Int)) && decide ((x.length : Int) ≤ n) && allIn cs x
  | _ => false
/-- a value whose kind is known -/
inductive Kd (K : PySem.W.Frag) (H : Hp) : V → Prop
  | str (x : Str) (h : x.length ≤ sizeLine) : Kd K H (.str x)
  | oth {v : V} {t : String} (ty : TyX K H v (.type t)) (n : kitB t "str" = some false) (no : ∀ x, v ≠ .str x) : Kd K H v
theorem textOf_oth {v : V} (no : ∀ x, v ≠ .str x) (cs : Str) (n : Int) : textOf v cs n = false := by
  cases v with
  | str x => exact absurd rfl (no x)
  | _ => rfl

section
variable {P : Program} {w : World} {K : PySem.W.Frag} {mg : Str → Option Value} {base : Heap}
def spText (K : PySem.W.Frag) : Sp := fun vs H Q _ => ∃ (v : V) (cs : Str) (n : Int), vs = [v, .str cs, .int n] ∧ Kd K H v ∧
  ∀ H', Same H H' → Q (.bl (textOf v cs n)) H'
theorem take_succ_all {l : List Nat} {i c : Nat} (h : l[i]? = some c) (p : Nat → Bool) : (l.take (i + 1)).map p = (l.take i).map p ++ [p c] := by
  rw [List.take_add_one, h, List.map_append]
  rfl
theorem ok_text {f : Addr} {fd : FuncData} (F : Fun K "is_text_of" "is_text_of" s_is_text_of f fd) (Y : Bn mg) :
    FnOk P w K mg base CX0 1 f fd ["value", "characters", "longest"] (spText K) := by
  refine F.ok sc_is_text_of (fun vs H Q E h => ?_) (fun cdv A outer s H vs Q E hr h => ?_)
  · obtain ⟨v, cs, n, rfl, _⟩ := h
    rfl
  · obtain ⟨v, cs, n, rfl, kd, q⟩ := h
    refine ⟨_, (pss_cons (ps_if (PW.pt (pw_or (pt_not (pt_val (pe_callB call_isi (by rfl) Y.isinstance (by decide +kernel) (pa_cons (pv 0) (pa_cons (pe_bltn (v := .ty "str") (by rfl) Y.str (by decide +kernel) rfl) pa_nil))))) (pw_or1 (pt_not (pt_chain op_le op_le pe_int (pe_callB call_len_str (by rfl) Y.len PySem.boot_len (pa_cons (pv 0) pa_nil)) (pv 2))))))
 (pss_one (ps_ret pe_bl))
 pss_nil)
 (pss_one (ps_ret (pe_callB (cr_all rfl) (by rfl) Y.all (by decide +kernel) (pa_cons (pe_lc (own := [("character", 3)]) (g := gName 3) (tt := tYes) rfl sc_is_text_of.nd (pi_str (pv 0)) (blkOk_by (N := ["value", "characters", "longest", "character"]) (sc := defScope s_is_text_of) (by decide +kernel)) (fun _ _ _ _ _ => (pg_name (i := 3) sc_is_text_of.nd rfl (Or.inl rfl))) (fun _ _ _ _ _ => pts_nil) (fun _ _ _ _ _ => (pe_cmpR op_in_sign (pv 3) (pv 1) rfl))) pa_nil))))), ?_⟩
    cases kd with
    | oth ty no nos =>
      refine ⟨v, rfl, v, _, _, _, false, rfl, .ty "str", ty, kit_ty no, _, rfl, ?_⟩
      refine iteT (iteT ?_)
      rw [textOf_oth nos] at q
      exact q _ (Same.refl _)
    | str x hx =>
      refine ⟨_, rfl, _, _, _, _, true, rfl, .ty "str", .base (.str x), kit_ty (by decide +kernel), _, rfl, ?_⟩
      refine iteF ?_
      have e1 : textOf (.str x) cs n = (decide ((1 : Int) ≤ (x.length : Int)) && decide ((x.length : Int) ≤ n) && allIn cs x) := rfl
      refine ⟨_, rfl, _, rfl, hx, 1, _, rfl, rfl, _, rfl, ?_⟩
      refine ite2 (fun c1 => ?_) (fun c1 => ?_)
      · refine ⟨_, rfl, _, _, rfl, rfl, _, rfl, ?_⟩
        cases c2 : decide ((x.length : Int) ≤ n) with
        | false =>
          refine iteT ?_
          rw [c2, Bool.and_false, Bool.false_and] at e1
          rw [e1] at q
          exact q _ (Same.refl _)
        | true =>
          refine iteF ?_
          rw [c1, c2, Bool.true_and, Bool.true_and] at e1
          refine ⟨_, rfl, x, rfl, fun D hD => ?_⟩
          refine lc_it (walk_str (z := x)) (fun i H' => Same H H' ∧ H' D = some (.lst (((x.cps.toList.take i).map fun c => decide (c ∈ cs.cps.toList)).map V.bl)))
            ⟨same_upd hD, upd_same⟩ (fun _ _ _ _ => trivial) ?_ ?_
          · rintro i y H1 H2 hi ⟨sm, hL⟩ ⟨rfl, c, hc, rfl⟩
            refine ⟨rfl, ?_⟩
            dsimp only [tYes]
            refine iteT ?_
            refine ⟨_, rfl, _, rfl, c, cs, rfl, rfl, _, hL, ?_, same_upd2 sm hD, ?_⟩
            · rw [List.length_map, List.length_map, List.length_take]
              refine Nat.lt_of_le_of_lt (Nat.min_le_left _ _) (Nat.lt_of_lt_of_le hi ?_)
              exact hx
            · have hc' : x.cps.toList[i]? = some c := by rw [Array.getElem?_toList]; exact hc
              rw [upd_same, take_succ_all hc', List.map_append]
              rfl
          · rintro H1 ⟨sm, hL⟩
            refine ⟨D, _, rfl, SqL.of hL, ?_⟩
            have e2 : ((x.cps.toList.take x.cps.size).map fun c => decide (c ∈ cs.cps.toList)).all id = allIn cs x := by
              rw [List.take_of_length_le (by rw [Array.length_toList]; exact Nat.le_refl _), List.all_map]
              rfl
            rw [e1] at q
            show Q (.bl (((x.cps.toList.take x.cps.size).map fun c => decide (c ∈ cs.cps.toList)).all id)) H1
            rw [e2]
            exact q _ sm
      · refine ⟨_, rfl, ?_⟩
        refine iteT ?_
        have c1' : decide ((1 : Int) ≤ (x.length : Int)) = false := by
          cases z : decide ((1 : Int) ≤ (x.length : Int)) with
          | false => rfl
          | true => exact absurd z c1
        rw [c1', Bool.false_and, Bool.false_and] at e1
        rw [e1] at q
        exact q _ (Same.refl _)
structure TxtC (mg : Str → Option Value) : Prop where
  lt : ∃ t, mg "LETTERS" = some (.str LET t)
  ln : ∃ t, mg "LONGEST_NAME" = some (.int 8 t)
def spHost (K : PySem.W.Frag) : Sp := fun vs H Q _ => ∃ v : V, vs = [v] ∧ Kd K H v ∧ ∀ H', Same H H' → Q (.bl (textOf v LET 8)) H'
theorem ok_host {f : Addr} {fd : FuncData} (F : Fun K "is_host_name" "is_host_name" s_is_host_name f fd) (C : TxtC mg) (G_is_text_of : Fk P w K mg base CX0 1 "is_text_of" ["value", "characters", "longest"] (spText K)) :
    FnOk P w K mg base CX0 2 f fd ["value"] (spHost K) := by
  obtain ⟨t1, e1⟩ := C.lt
  obtain ⟨t2, e2⟩ := C.ln
  refine F.ok sc_is_host_name (fun vs H Q E h => ?_) (fun cdv A outer s H vs Q E hr h => ?_)
  · obtain ⟨v, rfl, _⟩ := h
    rfl
  · obtain ⟨v, rfl, kd, q⟩ := h
    refine ⟨_, (pss_one (ps_ret (pe_callF G_is_text_of (hr.mono (by decide)) (by rfl) pass0 (pa_cons (pv 0) (pa_cons (pe_glob (v := .str LET) (by rfl) e1 ⟨_, rfl⟩) (pa_cons (pe_glob (v := .int 8) (by rfl) e2 ⟨_, rfl⟩) pa_nil)))))), ?_⟩
    exact ⟨v, rfl, v, LET, 8, rfl, kd, q⟩
def DIG : Str := "0123456789"
def WSG : Str := LET ++ DIG
structure TxtW (mg : Str → Option Value) : Prop where
  dg : ∃ t, mg "DIGITS" = some (.str DIG t)
  ln : ∃ t, mg "LONGEST_WORD" = some (.int 12 t)
def spWord (K : PySem.W.Frag) : Sp := fun vs H Q _ => ∃ v : V, vs = [v] ∧ Kd K H v ∧ ∀ H', Same H H' → Q (.bl (textOf v WSG 12)) H'
theorem ok_word {f : Addr} {fd : FuncData} (F : Fun K "is_word" "is_word" s_is_word f fd) (C : TxtC mg) (D : TxtW mg) (G_is_text_of : Fk P w K mg base CX0 1 "is_text_of" ["value", "characters", "longest"] (spText K)) :
    FnOk P w K mg base CX0 2 f fd ["value"] (spWord K) := by
  obtain ⟨t1, e1⟩ := C.lt
  obtain ⟨t2, e2⟩ := D.dg
  obtain ⟨t3, e3⟩ := D.ln
  refine F.ok sc_is_word (fun vs H Q E h => ?_) (fun cdv A outer s H vs Q E hr h => ?_)
  · obtain ⟨v, rfl, _⟩ := h
    rfl
  · obtain ⟨v, rfl, kd, q⟩ := h
    refine ⟨_, (pss_one (ps_ret (pe_callF G_is_text_of (hr.mono (by decide)) (by rfl) pass0 (pa_cons (pv 0) (pa_cons (pe_op op_add_str (pe_glob (v := .str LET) (by rfl) e1 ⟨_, rfl⟩) (pe_glob (v := .str DIG) (by rfl) e2 ⟨_, rfl⟩)) (pa_cons (pe_glob (v := .int 12) (by rfl) e3 ⟨_, rfl⟩) pa_nil)))))), ?_⟩
    exact ⟨v, rfl, LET, DIG, rfl, rfl, (by decide +kernel), v, WSG, 12, rfl, kd, q⟩
end
end My

namespace My
open PySem PySem.Spec PyProof.Rows L2 Gy Xl Xs Xt
/-! ### what a relink is, over data -/
mutual
/-- few and short parts -/
def sml : PyData → Bool
  | .str x => decide (x.length ≤ 640)
  | .int _ => true
  | .list ds => decide (ds.length ≤ 660) && smls ds
  | .tuple ds => decide (ds.length ≤ 660) && smls ds
  | .dict kvs => kvs.isEmpty
  | .none => true
  | .bool _ => true
def smls : List PyData → Bool
  | [] => true
  | d :: ds => sml d && smls ds
end
theorem smls_mem : ∀ {ds : List PyData} {d : PyData}, smls ds = true → d ∈ ds → sml d = true
  | e :: ds, d, h, m => by
    have h2 : sml e = true ∧ smls ds = true := by simpa only [smls, Bool.and_eq_true] using h
    rcases List.mem_cons.mp m with rfl | m
    · exact h2.1
    · exact smls_mem h2.2 m
def isHost : PyData → Bool
  | .str x => decide ((1 : Int) ≤ (x.length : Int)) && decide ((x.length : Int) ≤ 8) && allIn LET x
  | _ => false
def txts : List PyData → List Str
  | [] => []
  | .str x :: ds => x :: txts ds
  | _ :: ds => txts ds
def isPath : PyData → Bool
  | .tuple ds => decide (3 ≤ ds.length) && (ds.all isHost && decide ((txts ds).Nodup))
  | _ => false
/-- a whole number from 0 on, below another -/
def isIdx (n : Int) : PyData → Bool
  | .int i => decide (0 ≤ i) && decide (i < n)
  | _ => false
theorem isPath_t (ds : List PyData) : isPath (.tuple ds) = (decide (3 ≤ ds.length) && (ds.all isHost && decide ((txts ds).Nodup))) := rfl
theorem isIdx_i (n i : Int) : isIdx n (.int i) = (decide (0 ≤ i) && decide (i < n)) := rfl
def isRel : PyData → Bool
  | .tuple [.tuple ds, c] => isPath (.tuple ds) && isIdx ((ds.length : Int) - 1) c
  | _ => false
theorem txts_all : ∀ {ds : List PyData}, ds.all isHost = true → ds = (txts ds).map PyData.str
  | [], _ => rfl
  | d :: ds, h => by
    have h2 : isHost d = true ∧ ds.all isHost = true := by simpa only [List.all_cons, Bool.and_eq_true] using h
    cases d with
    | str x =>
      show PyData.str x :: ds = PyData.str x :: (txts ds).map PyData.str
      rw [← txts_all h2.2]
    | _ => cases h2.1
section
variable {P : Program} {w : World} {K : PySem.W.Frag} {mg : Str → Option Value} {base : Heap} {H : Hp}
theorem Dns.len : ∀ {vs : List V} {ds : List PyData}, Dns K H vs ds → vs.length = ds.length
  | _, _, .nil => rfl
  | _, _, .cons h t => by rw [List.length_cons, List.length_cons, Dns.len t]
theorem Dns.get : ∀ {vs : List V} {ds : List PyData}, Dns K H vs ds → ∀ {i : Nat} {v : V}, vs[i]? = some v → ∃ d, ds[i]? = some d ∧ Dn K H v d
  | _, _, .nil, i, v, e => by simp at e
  | _, _, .cons h t, 0, v, e => by
    simp at e
    subst e
    exact ⟨_, rfl, h⟩
  | _, _, .cons h t, i + 1, v, e => by
    simp only [List.getElem?_cons_succ] at e ⊢
    exact Dns.get t e
theorem Dns.txts : ∀ {vs : List V} {xs : List Str}, Dns K H vs (xs.map PyData.str) → vs = xs.map V.str
  | _, [], .nil => rfl
  | _, x :: xs, .cons h t => by
    cases h
    rw [Dns.txts t]
    rfl
theorem kd_dn {v : V} {d : PyData} (h : Dn K H v d) (s : sml d = true) : Kd K H v := by
  cases h with
  | non => exact .oth (.base .non) (by decide +kernel) (fun x z => nomatch z)
  | bl b => exact .oth (.base (.bl b)) (by decide +kernel) (fun x z => nomatch z)
  | int i => exact .oth (.base (.int i)) (by decide +kernel) (fun x z => nomatch z)
  | str x =>
    have : x.length ≤ 640 := by simpa only [sml, decide_eq_true_eq] using s
    exact .str x (le200 (by omega))
  | lst e _ => exact .oth (.base (.lst e)) (by decide +kernel) (fun x z => nomatch z)
  | tup e _ => exact .oth e.ty (by decide +kernel) (fun x z => nomatch z)
  | dic e => exact .oth (.base (.dK e)) (by decide +kernel) (fun x z => nomatch z)
theorem host_dn {v : V} {d : PyData} (h : Dn K H v d) : textOf v LET 8 = isHost d := by
  cases h <;> rfl
/-- the kind of a value, and whether it is a tuple -/
theorem tup_or {v : V} {d : PyData} (h : Dn K H v d) : (∃ a xs ds, v = .ref a ∧ d = .tuple ds ∧ Tz H a xs ∧ Dns K H xs ds) ∨ ((∀ ds, d ≠ .tuple ds) ∧ ∃ t, TyX K H v (.type t) ∧ kitB t "tuple" = some false) := by
  cases h with
  | non => exact .inr ⟨(fun _ z => nomatch z), _, .base .non, by decide +kernel⟩
  | bl b => exact .inr ⟨(fun _ z => nomatch z), _, .base (.bl b), by decide +kernel⟩
  | int i => exact .inr ⟨(fun _ z => nomatch z), _, .base (.int i), by decide +kernel⟩
  | str x => exact .inr ⟨(fun _ z => nomatch z), _, .base (.str x), by decide +kernel⟩
  | lst e _ => exact .inr ⟨(fun _ z => nomatch z), _, .base (.lst e), by decide +kernel⟩
  | tup e t => exact .inl ⟨_, _, _, rfl, rfl, e, t⟩
  | dic e => exact .inr ⟨(fun _ z => nomatch z), _, .base (.dK e), by decide +kernel⟩
/-- whether it is a whole number, or True, False -/
theorem int_or {v : V} {d : PyData} (h : Dn K H v d) : (∃ i, v = .int i ∧ d = .int i) ∨ (∃ b, v = .bl b ∧ d = .bool b) ∨ ((∀ i, d ≠ .int i) ∧ ∃ t, TyX K H v (.type t) ∧ kitB t "int" = some false) := by
  cases h with
  | non => exact .inr (.inr ⟨(fun _ z => nomatch z), _, .base .non, by decide +kernel⟩)
  | bl b => exact .inr (.inl ⟨b, rfl, rfl⟩)
  | int i => exact .inl ⟨i, rfl, rfl⟩
  | str x => exact .inr (.inr ⟨(fun _ z => nomatch z), _, .base (.str x), by decide +kernel⟩)
  | lst e _ => exact .inr (.inr ⟨(fun _ z => nomatch z), _, .base (.lst e), by decide +kernel⟩)
  | tup e _ => exact .inr (.inr ⟨(fun _ z => nomatch z), _, e.ty, by decide +kernel⟩)
  | dic e => exact .inr (.inr ⟨(fun _ z => nomatch z), _, .base (.dK e), by decide +kernel⟩)
def spPath (K : PySem.W.Frag) : Sp := fun vs H Q _ => ∃ (v : V) (d : PyData), vs = [v] ∧ Dn K H v d ∧ sml d = true ∧ ∀ H', Same H H' → Q (.bl (isPath d)) H'
theorem ok_path {f : Addr} {fd : FuncData} (F : Fun K "is_relink_path" "is_relink_path" s_is_relink_path f fd) (Y : Bn mg) (sp : ∃ t, mg "SHORTEST_PATH" = some (.int 3 t))
    (G_is_host_name : Fk P w K mg base CX0 2 "is_host_name" ["value"] (spHost K)) : FnOk P w K mg base CX0 3 f fd ["value"] (spPath K) := by
  obtain ⟨t1, e1⟩ := sp
  refine F.ok sc_is_relink_path (fun vs H Q E h => ?_) (fun cdv A outer s H vs Q E hr h => ?_)
  · obtain ⟨v, d, rfl, _⟩ := h
    rfl
  · obtain ⟨v, d, rfl, dn, sm, q⟩ := h
    refine ⟨_, (pss_cons (ps_if (PW.pt (pw_or (pt_not (pt_val (pe_callB call_isi (by rfl) Y.isinstance (by decide +kernel) (pa_cons (pv 0) (pa_cons (pe_bltn (v := .ty "tuple") (by rfl) Y.tuple (by decide +kernel) rfl) pa_nil))))) (pw_or1 (pt_cmpR op_lt (pe_callB call_len_seq (by rfl) Y.len PySem.boot_len (pa_cons (pv 0) pa_nil)) (pe_glob (v := .int 3) (by rfl) e1 ⟨_, rfl⟩) (nomark _)))))
 (pss_one (ps_ret pe_bl))
 pss_nil)
 (pss_one (ps_ret (pe_and (pe_callB (cr_all rfl) (by rfl) Y.all (by decide +kernel) (pa_cons (pe_lc (own := [("host", 1)]) (g := gName 1) (tt := tYes) rfl sc_is_relink_path.nd (pi_tup (pv 0)) (blkOk_by (N := ["value", "host"]) (sc := defScope s_is_relink_path) (by decide +kernel)) (fun _ _ _ _ _ => (pg_name (i := 1) sc_is_relink_path.nd rfl (Or.inl rfl))) (fun _ _ _ _ _ => pts_nil) (fun _ _ _ _ _ => (pe_callF G_is_host_name (hr.mono (by decide)) (by rfl) pass0 (pa_cons (pv 1) pa_nil)))) pa_nil)) (pe_one (pe_cmpR op_eq (pe_lenTexts (by rfl) Y.len (by rfl) Y.set (pv 0)) (pe_callB call_len_seq (by rfl) Y.len PySem.boot_len (pa_cons (pv 0) pa_nil)) (nomark _))))))), ?_⟩
    rcases tup_or dn with ⟨a, xs, ds, rfl, rfl, ha, hd⟩ | ⟨no, t, ty, kt⟩
    · have sm2 : ds.length ≤ 660 ∧ smls ds = true := by simpa only [sml, Bool.and_eq_true, decide_eq_true_eq] using sm
      have el := Dns.len hd
      refine ⟨_, rfl, _, _, _, _, true, rfl, .ty "tuple", ha.ty, kit_ty (by decide +kernel), _, rfl, iteF ?_⟩
      refine ⟨_, rfl, a, _, rfl, .inr (ha.sq), _, 3, rfl, rfl, _, rfl, ite2 (fun c => ?_) (fun c => ?_)⟩
      · have c' := of_decide_eq_true c
        have z : isPath (.tuple ds) = false := by
          rw [isPath_t]
          rw [decide_eq_false (show ¬ 3 ≤ ds.length by omega), Bool.false_and]
        rw [z] at q
        exact q _ (Same.refl _)
      · have c' : ¬ (xs.length : Int) < 3 := fun z => c (decide_eq_true z)
        refine ⟨_, rfl, a, rfl, ⟨_, ha.sq⟩, fun D hD => ?_⟩
        refine lc_it (walk_tup (K := K) (a := a) (xs := xs)) (fun i H' => Same H H' ∧ H' D = some (.lst (((ds.take i).map isHost).map V.bl))) ⟨same_upd hD, upd_same⟩ (fun i H' _ h => (ha.same h.1).sq) ?_ ?_
        · rintro i y H1 H2 hi ⟨s1, hL⟩ ⟨rfl, hy⟩
          obtain ⟨di, hdi, dni⟩ := Dns.get hd hy
          refine ⟨rfl, ?_⟩
          dsimp only [tYes]
          refine iteT ?_
          refine ⟨_, rfl, y, rfl, kd_dn (dni.same s1) (smls_mem sm2.2 (List.mem_of_getElem? hdi)), fun H3 s3 => ?_⟩
          refine ⟨_, s3 _ _ hL, ?_, same_upd2 (s1.trans s3) hD, ?_⟩
          · rw [List.length_map, List.length_map, List.length_take]
            exact small200 (by omega)
          · rw [upd_same, host_dn dni, List.take_add_one, hdi, List.map_append, List.map_append]
            rfl
        · rintro H1 ⟨s1, hL⟩
          rw [el, List.take_of_length_le (Nat.le_refl _)] at hL
          refine ⟨D, _, rfl, SqL.of hL, _, rfl, ite2 (fun c1 => ?_) (fun c1 => ?_)⟩
          · rw [List.all_map] at c1
            have c2 : ds.all isHost = true := c1
            have e := txts_all c2
            have ha1 := ha.same s1
            have ex : xs = (txts ds).map V.str := by
              rw [e] at hd
              exact Dns.txts hd
            have el2 : xs.length = (txts ds).length := by rw [ex, List.length_map]
            refine ⟨_, rfl, a, txts ds, rfl, (by rw [← ex]; exact ha1.sq), (by omega), _, rfl, a, _, rfl, .inr (ha1.sq), rfl, ?_⟩
            have z : isPath (.tuple ds) = decide (V.int ((numd (txts ds) (txts ds).length : Nat) : Int) = V.int (xs.length : Int)) := by
              rw [isPath_t]
              rw [c2, decide_eq_true (show 3 ≤ ds.length by omega), Bool.true_and, Bool.true_and]
              congr 1
              have nf := numd_full (txts ds) (txts ds).length (Nat.le_refl _)
              rw [List.take_of_length_le (Nat.le_refl _)] at nf
              rw [← nf, eq_iff_iff, el2]
              refine ⟨fun z => by rw [z], fun z => ?_⟩
              injection z with z
              omega
            rw [← z]
            exact q _ s1
          · rw [List.all_map] at c1
            have c2 : ds.all isHost = false := Bool.eq_false_iff.mpr c1
            have z : isPath (.tuple ds) = false := by
              rw [isPath_t]
              rw [c2, Bool.false_and, Bool.and_false]
            rw [z] at q
            exact q _ s1
    · refine ⟨v, rfl, v, _, _, _, false, rfl, .ty "tuple", ty, kit_ty kt, _, rfl, ?_⟩
      refine iteT (iteT ?_)
      have z : isPath d = false := by
        cases d with
        | tuple ds => exact absurd rfl (no ds)
        | _ => rfl
      rw [z] at q
      exact q _ (Same.refl _)
/-! ### whole numbers, the cut -/
/-- a whole number from another on -/
def isFrom (n : Int) : PyData → Bool
  | .int i => decide (n ≤ i)
  | _ => false
def spFrom (K : PySem.W.Frag) : Sp := fun vs H Q _ => ∃ (v : V) (n : Int) (d : PyData), vs = [v, .int n] ∧ Dn K H v d ∧ Q (.bl (isFrom n d)) H
theorem ok_from {f : Addr} {fd : FuncData} (F : Fun K "is_integer_from" "is_integer_from" s_is_integer_from f fd) (Y : Bn mg) : FnOk P w K mg base CX0 1 f fd ["value", "least"] (spFrom K) := by
  refine F.ok sc_is_integer_from (fun vs H Q E h => ?_) (fun cdv A outer s H vs Q E hr h => ?_)
  · obtain ⟨v, n, d, rfl, _⟩ := h
    rfl
  · obtain ⟨v, n, d, rfl, dn, q⟩ := h
    refine ⟨_, (pss_one (ps_ret (pe_and (pe_callB call_isi (by rfl) Y.isinstance (by decide +kernel) (pa_cons (pv 0) (pa_cons (pe_bltn (v := .ty "int") (by rfl) Y.int (by decide +kernel) rfl) pa_nil))) (pe_and (pe_not (pe_callB call_isi (by rfl) Y.isinstance (by decide +kernel) (pa_cons (pv 0) (pa_cons (pe_bltn (v := .ty "bool") (by rfl) Y.bool (by decide +kernel) rfl) pa_nil)))) (pe_one (pe_cmpR op_ge (pv 0) (pv 1) (nomark _))))))), ?_⟩
    rcases int_or dn with ⟨i, rfl, rfl⟩ | ⟨b, rfl, rfl⟩ | ⟨no, t, ty, kt⟩
    · refine ⟨_, rfl, _, _, _, _, true, rfl, .ty "int", .base (.int i), kit_ty (by decide +kernel), _, rfl, iteT ?_⟩
      refine ⟨_, rfl, _, _, _, _, false, rfl, .ty "bool", .base (.int i), kit_ty (by decide +kernel), _, rfl, _, rfl, iteT ?_⟩
      exact ⟨_, rfl, _, rfl, _, _, rfl, rfl, q⟩
    · refine ⟨_, rfl, _, _, _, _, true, rfl, .ty "int", .base (.bl b), kit_ty (by decide +kernel), _, rfl, iteT ?_⟩
      refine ⟨_, rfl, _, _, _, _, true, rfl, .ty "bool", .base (.bl b), kit_ty (by decide +kernel), _, rfl, _, rfl, iteF ?_⟩
      exact q
    · refine ⟨v, rfl, v, _, _, _, false, rfl, .ty "int", ty, kit_ty kt, _, rfl, iteF ?_⟩
      have z : isFrom n d = false := by
        cases d with
        | int i => exact absurd rfl (no i)
        | _ => rfl
      rw [z] at q
      exact q
def spIdx (K : PySem.W.Frag) : Sp := fun vs H Q _ => ∃ (v : V) (n : Int) (d : PyData), vs = [v, .int n] ∧ Dn K H v d ∧ Q (.bl (isIdx n d)) H
theorem ok_idx {f : Addr} {fd : FuncData} (F : Fun K "is_index" "is_index" s_is_index f fd) (G_is_integer_from : Fk P w K mg base CX0 1 "is_integer_from" ["value", "least"] (spFrom K)) : FnOk P w K mg base CX0 2 f fd ["value", "size"] (spIdx K) := by
  refine F.ok sc_is_index (fun vs H Q E h => ?_) (fun cdv A outer s H vs Q E hr h => ?_)
  · obtain ⟨v, n, d, rfl, _⟩ := h
    rfl
  · obtain ⟨v, n, d, rfl, dn, q⟩ := h
    refine ⟨_, (pss_one (ps_ret (pe_and (pe_callF G_is_integer_from (hr.mono (by decide)) (by rfl) pass0 (pa_cons (pv 0) (pa_cons pe_int pa_nil))) (pe_one (pe_cmpR op_lt (pv 0) (pv 1) (nomark _)))))), ?_⟩
    refine ⟨_, rfl, v, 0, d, rfl, dn, _, rfl, ite2 (fun c => ?_) (fun c => ?_)⟩
    · cases d with
      | int i =>
        cases dn
        refine ⟨_, rfl, _, rfl, _, _, rfl, rfl, ?_⟩
        have z : isIdx n (.int i) = decide (i < n) := by
          rw [isIdx_i]
          have c' : decide ((0 : Int) ≤ i) = true := c
          rw [c', Bool.true_and]
        rw [z] at q
        exact q
      | _ => cases c
    · have z : isIdx n d = false := by
        cases d with
        | int i =>
          rw [isIdx_i]
          have c' : decide ((0 : Int) ≤ i) = false := Bool.eq_false_iff.mpr c
          rw [c', Bool.false_and]
        | _ => rfl
      rw [z] at q
      exact q
def spCut (K : PySem.W.Frag) : Sp := fun vs H Q _ => ∃ (a : Addr) (xs : List V) (v : V) (d : PyData), vs = [.ref a, v] ∧ Tz H a xs ∧ Dn K H v d ∧ Q (.bl (isIdx ((xs.length : Int) - 1) d)) H
theorem ok_cut {f : Addr} {fd : FuncData} (F : Fun K "is_cut_of" "is_cut_of" s_is_cut_of f fd) (Y : Bn mg) (G_is_index : Fk P w K mg base CX0 2 "is_index" ["value", "size"] (spIdx K)) : FnOk P w K mg base CX0 3 f fd ["path", "value"] (spCut K) := by
  refine F.ok sc_is_cut_of (fun vs H Q E h => ?_) (fun cdv A outer s H vs Q E hr h => ?_)
  · obtain ⟨a, xs, v, d, rfl, _⟩ := h
    rfl
  · obtain ⟨a, xs, v, d, rfl, ha, dn, q⟩ := h
    refine ⟨_, (pss_one (ps_ret (pe_callF G_is_index (hr.mono (by decide)) (by rfl) pass0 (pa_cons (pv 1) (pa_cons (pe_op op_sub (pe_callB call_len_seq (by rfl) Y.len PySem.boot_len (pa_cons (pv 0) pa_nil)) pe_int) pa_nil))))), ?_⟩
    exact ⟨_, rfl, _, rfl, a, _, rfl, .inr ha.sq, _, _, rfl, rfl, v, _, d, rfl, dn, q⟩
/-! ### is_relink -/
def spRel (K : PySem.W.Frag) : Sp := fun vs H Q _ => ∃ (v : V) (d : PyData), vs = [v] ∧ Dn K H v d ∧ sml d = true ∧ ∀ H', Same H H' → Q (.bl (isRel d)) H'
theorem isRel_2 (p c : PyData) : isRel (.tuple [p, c]) = (isPath p && (match p with | .tuple ds => isIdx ((ds.length : Int) - 1) c | _ => false)) := by
  cases p <;> rfl
theorem isRel_n {ds : List PyData} (h : ds.length ≠ 2) : isRel (.tuple ds) = false := by
  match ds, h with
  | [], _ => rfl
  | [p], _ => cases p <;> rfl
  | p :: c :: e :: ds, _ => cases p <;> rfl
  | [p, c], h => exact absurd rfl h
theorem ok_rel {f : Addr} {fd : FuncData} (F : Fun K "is_relink" "is_relink" s_is_relink f fd) (Y : Bn mg) (G_is_relink_path : Fk P w K mg base CX0 3 "is_relink_path" ["value"] (spPath K)) (G_is_cut_of : Fk P w K mg base CX0 3 "is_cut_of" ["path", "value"] (spCut K)) :
    FnOk P w K mg base CX0 4 f fd ["value"] (spRel K) := by
  refine F.ok sc_is_relink (fun vs H Q E h => ?_) (fun cdv A outer s H vs Q E hr h => ?_)
  · obtain ⟨v, d, rfl, _⟩ := h
    rfl
  · obtain ⟨v, d, rfl, dn, sm, q⟩ := h
    refine ⟨_, (pss_cons (ps_if (PW.pt (pw_or (pt_not (pt_val (pe_callB call_isi (by rfl) Y.isinstance (by decide +kernel) (pa_cons (pv 0) (pa_cons (pe_bltn (v := .ty "tuple") (by rfl) Y.tuple (by decide +kernel) rfl) pa_nil))))) (pw_or1 (pt_cmpR op_ne (pe_callB call_len_seq (by rfl) Y.len PySem.boot_len (pa_cons (pv 0) pa_nil)) pe_int (nomark _)))))
 (pss_one (ps_ret pe_bl))
 pss_nil)
 (pss_cons (ps_asg (pv 0) (pg_tup (by rfl) (pgs_cons (pg_name (i := 1) sc_is_relink.nd rfl (Or.inl rfl)) (pgs_cons (pg_name (i := 2) sc_is_relink.nd rfl (Or.inl rfl)) pgs_nil))))
 (pss_one (ps_ret (pe_and (pe_callF G_is_relink_path (hr.mono (by decide)) (by rfl) pass0 (pa_cons (pv 1) pa_nil)) (pe_one (pe_callF G_is_cut_of (hr.mono (by decide)) (by rfl) pass0 (pa_cons (pv 1) (pa_cons (pv 2) pa_nil))))))))), ?_⟩
    rcases tup_or dn with ⟨a, xs, ds, rfl, rfl, ha, hd⟩ | ⟨no, t, ty, kt⟩
    · have sm2 : ds.length ≤ 660 ∧ smls ds = true := by simpa only [sml, Bool.and_eq_true, decide_eq_true_eq] using sm
      have el := Dns.len hd
      refine ⟨_, rfl, _, _, _, _, true, rfl, .ty "tuple", ha.ty, kit_ty (by decide +kernel), _, rfl, iteF ?_⟩
      refine ⟨_, rfl, a, _, rfl, .inr (ha.sq), rfl, _, rfl, ite2 (fun c => ?_) (fun c => ?_)⟩
      · have c' : ds.length ≠ 2 := fun z => by
          rw [decide_eq_true (show V.int (xs.length : Int) = V.int 2 by rw [el, z]; rfl)] at c
          cases c
        rw [isRel_n c'] at q
        exact q _ (Same.refl _)
      · have c' : xs.length = 2 := by
          have z : V.int (xs.length : Int) = V.int 2 := Decidable.of_not_not fun z => c (by rw [decide_eq_false z]; rfl)
          injection z with z
          omega
        obtain ⟨p, c0, rfl⟩ : ∃ p c0, xs = [p, c0] := by
          match xs, c' with
          | [p, c0], _ => exact ⟨p, c0, rfl⟩
        cases hd with
        | @cons _ _ dp _ h1 hd =>
        cases hd with
        | @cons _ _ dc _ h2 hd =>
          cases hd
          have m1 : sml dp = true := smls_mem sm2.2 List.mem_cons_self
          rw [isRel_2] at q
          refine ⟨_, rfl, a, _, rfl, ha.sq, rfl, _, _, rfl, _, _, rfl, rfl, ?_⟩
          refine ⟨_, rfl, p, dp, rfl, h1, m1, fun H1 s1 => ⟨_, rfl, ite2 (fun c1 => ?_) (fun c1 => ?_)⟩⟩
          · rw [c1, Bool.true_and] at q
            rcases tup_or h1 with ⟨b, ys, es, rfl, rfl, hb, hes⟩ | ⟨no, _⟩
            · have el2 := Dns.len hes
              refine ⟨_, rfl, _, rfl, b, ys, c0, dc, rfl, hb.same s1, h2.same s1, ?_⟩
              rw [el2]
              exact q _ s1
            · cases dp with
              | tuple es => exact absurd rfl (no es)
              | _ => cases c1
          · rw [Bool.eq_false_iff.mpr c1, Bool.false_and] at q
            exact q _ s1
    · refine ⟨v, rfl, v, _, _, _, false, rfl, .ty "tuple", ty, kit_ty kt, _, rfl, ?_⟩
      refine iteT (iteT ?_)
      have z : isRel d = false := by
        cases d with
        | tuple ds => exact absurd rfl (no ds)
        | _ => rfl
      rw [z] at q
      exact q _ (Same.refl _)
end
end My

namespace My
open PySem PySem.Spec PyProof.Rows L2 Gy Xl Xs Xt
def isWord : PyData → Bool
  | .str x => decide ((1 : Int) ≤ (x.length : Int)) && decide ((x.length : Int) ≤ 12) && allIn WSG x
  | _ => false
theorem word_dn {K : PySem.W.Frag} {H : Hp} {v : V} {d : PyData} (h : Dn K H v d) : textOf v WSG 12 = isWord d := by
  cases h <;> rfl
theorem cut1 (x : V) (xs : List V) : cutV (x :: xs) (some 1) none = xs := by
  unfold cutV
  rw [show (some 1 : Option Int) = some ((1 : Nat) : Int) from rfl, HT.sIx_nat, HT.sIx_none, List.length_cons, show min 1 (xs.length + 1) = 1 by omega]
  show (List.drop 0 xs).take _ = _
  rw [List.drop_zero, List.take_of_length_le (by omega)]
def numS (i : Nat) : Str := Str.ofString (toString (i : Int))
theorem numS_inj {i j : Nat} (h : numS i = numS j) : i = j := by
  have e := congrArg TL.tl h
  unfold numS at e
  rw [TL.tl_num, TL.tl_num] at e
  exact TL.numL_inj e
theorem numS_free {i s : Nat} (h : s < 48 ∨ 57 < s) : s ∉ TL.tl (numS i) := by
  unfold numS
  rw [TL.tl_num]
  exact TL.numL_free h
theorem numS_len {i k : Nat} (hk : 0 < k) (h : i < 10 ^ k) : (numS i).length ≤ k := by
  unfold numS
  rw [TL.len_tl, TL.tl_num]
  exact TL.numL_len hk h
theorem log2_small {i k : Nat} (h : i < 2 ^ k) (h2 : k < 1920) : i.log2 < 1920 := by
  by_cases z : i = 0
  · rw [z]
    decide
  · exact Nat.lt_trans ((Nat.log2_lt z).mpr h) h2
def pIdx (x : Str) (n : Nat) : Option Nat := (List.range n).find? fun i => decide (numS i = x)
theorem pIdx_some {x : Str} {n i : Nat} (h : pIdx x n = some i) : numS i = x ∧ i < n ∧ ∀ j, j < i → numS j ≠ x := by
  unfold pIdx at h
  rw [List.find?_range_eq_some] at h
  obtain ⟨h1, h2, h3⟩ := h
  refine ⟨of_decide_eq_true h1, List.mem_range.mp h2, fun j hj z => ?_⟩
  have := h3 j hj
  rw [decide_eq_true z] at this
  cases this
theorem pIdx_none {x : Str} {n : Nat} (h : pIdx x n = none) : ∀ i, i < n → numS i ≠ x := fun i hi z => by
  unfold pIdx at h
  rw [List.find?_eq_none] at h
  exact h i (List.mem_range.mpr hi) (decide_eq_true z)
theorem pIdx_num {i n : Nat} (h : i < n) : pIdx (numS i) n = some i := by
  cases e : pIdx (numS i) n with
  | none => exact absurd rfl (pIdx_none e i h)
  | some j => rw [numS_inj (pIdx_some e).1]
def oV : Option Nat → V
  | some i => .int (i : Int)
  | none => .non
def oD : Option Nat → PyData
  | some i => .int (i : Int)
  | none => .none
def nums (n : Nat) : List Str := (List.range n).map numS
theorem nums_mem {x : Str} {n : Nat} : x ∈ nums n ↔ ∃ i, pIdx x n = some i := by
  unfold nums
  rw [List.mem_map]
  constructor
  · rintro ⟨i, hi, rfl⟩
    exact ⟨i, pIdx_num (List.mem_range.mp hi)⟩
  · rintro ⟨i, h⟩
    exact ⟨i, List.mem_range.mpr (pIdx_some h).2.1, (pIdx_some h).1⟩
theorem nums_succ (n : Nat) : nums (n + 1) = nums n ++ [numS n] := by
  unfold nums
  rw [List.range_succ, List.map_append]
  rfl
theorem nums_len (n : Nat) : (nums n).length = n := by
  unfold nums
  rw [List.length_map, List.length_range]
theorem nums_get {n i : Nat} (h : i < n) : (nums n)[i]? = some (numS i) := by
  unfold nums
  rw [List.getElem?_map, List.getElem?_range h]
  rfl
theorem txts_map : ∀ xs : List Str, txts (xs.map PyData.str) = xs
  | [] => rfl
  | x :: xs => by
    show x :: txts (xs.map PyData.str) = _
    rw [txts_map xs]
def reld (xs : List Str) (c : Nat) : PyData := .tuple [.tuple (xs.map PyData.str), .int (c : Int)]
theorem rel_parts {d : PyData} (h : isRel d = true) : ∃ (xs : List Str) (c : Nat), d = reld xs c ∧ 3 ≤ xs.length ∧ xs.Nodup ∧ c + 2 ≤ xs.length ∧ (xs.map PyData.str).all isHost = true := by
  match d, h with
  | .tuple [.tuple ds, c], h =>
    have h2 : isPath (.tuple ds) = true ∧ isIdx ((ds.length : Int) - 1) c = true := by simpa only [isRel, Bool.and_eq_true] using h
    have h3 := h2.1
    rw [isPath_t, Bool.and_eq_true, Bool.and_eq_true, decide_eq_true_eq, decide_eq_true_eq] at h3
    obtain ⟨l3, ah, nd⟩ := h3
    have e := txts_all ah
    have el : ds.length = (txts ds).length := by
      have := congrArg List.length e
      rw [List.length_map] at this
      exact this
    match c, h2.2 with
    | .int i, hc =>
      rw [isIdx_i, Bool.and_eq_true, decide_eq_true_eq, decide_eq_true_eq] at hc
      obtain ⟨j, rfl⟩ := Int.eq_ofNat_of_zero_le hc.1
      refine ⟨txts ds, j, ?_, by omega, nd, by omega, by rw [← e]; exact ah⟩
      unfold reld
      rw [← e]
theorem host_in {x : Str} (h : isHost (.str x) = true) : 1 ≤ x.length ∧ x.length ≤ 8 ∧ ∀ c ∈ TL.tl x, c ∈ LET.cps.toList := by
  have h' : (decide ((1 : Int) ≤ (x.length : Int)) && decide ((x.length : Int) ≤ 8) && allIn LET x) = true := h
  rw [Bool.and_eq_true, Bool.and_eq_true, decide_eq_true_eq, decide_eq_true_eq] at h'
  refine ⟨by omega, by omega, fun c hc => ?_⟩
  exact of_decide_eq_true (List.all_eq_true.mp h'.2 c hc)
theorem word_in {x : Str} (h : isWord (.str x) = true) : 1 ≤ x.length ∧ x.length ≤ 12 ∧ ∀ c ∈ TL.tl x, c ∈ WSG.cps.toList := by
  have h' : (decide ((1 : Int) ≤ (x.length : Int)) && decide ((x.length : Int) ≤ 12) && allIn WSG x) = true := h
  rw [Bool.and_eq_true, Bool.and_eq_true, decide_eq_true_eq, decide_eq_true_eq] at h'
  refine ⟨by omega, by omega, fun c hc => ?_⟩
  exact of_decide_eq_true (List.all_eq_true.mp h'.2 c hc)
theorem let_no : (32 ∉ LET.cps.toList) ∧ 44 ∉ LET.cps.toList := by decide +kernel
theorem wsg_no : (32 ∉ WSG.cps.toList) ∧ 44 ∉ WSG.cps.toList := by decide +kernel
theorem hosts_in {xs : List Str} (ah : (xs.map PyData.str).all isHost = true) : ∀ x ∈ xs, isHost (.str x) = true := fun x hx =>
  List.all_eq_true.mp ah _ (List.mem_map_of_mem hx)
theorem join_free {y : Str} {s : Nat} (hy : s ∉ TL.tl y) : ∀ {xs : List Str}, (∀ x ∈ xs, s ∉ TL.tl x) → s ∉ TL.tl (Txt.join y xs) := by
  intro xs h
  rw [TL.join_eq]
  induction xs with
  | nil => exact fun z => nomatch z
  | cons x xs ih =>
    cases xs with
    | nil => exact h x List.mem_cons_self
    | cons z r =>
      show s ∉ TL.tl (x ++ y ++ Str.join y (z :: r))
      rw [TL.tl_append, TL.tl_append, List.mem_append, List.mem_append]
      rintro ((q | q) | q)
      · exact h x List.mem_cons_self q
      · exact hy q
      · exact ih (fun w hw => h w (List.mem_cons_of_mem _ hw)) q
theorem split_sp {ps : List Str} (hne : ps ≠ []) (hp : ∀ p ∈ ps, 32 ∉ TL.tl p) : Txt.split (Txt.join " " ps) " " = ps :=
  TL.split_join (y := " ") (s := 32) (S := []) (by decide +kernel) (by decide +kernel) hne hp
theorem split_co {ps : List Str} (hne : ps ≠ []) (hp : ∀ p ∈ ps, 44 ∉ TL.tl p) : Txt.split (Txt.join "," ps) "," = ps :=
  TL.split_join (y := ",") (s := 44) (S := []) (by decide +kernel) (by decide +kernel) hne hp
theorem sum_le {α : Type} {f : α → Nat} {m : Nat} : ∀ {l : List α}, (∀ x ∈ l, f x ≤ m) → (l.map f).sum ≤ l.length * m
  | [], _ => Nat.zero_le _
  | x :: l, h => by
    rw [List.map_cons, List.sum_cons, List.length_cons, Nat.add_mul, Nat.one_mul]
    have a := h x List.mem_cons_self
    have b := sum_le (l := l) fun y hy => h y (List.mem_cons_of_mem _ hy)
    omega
theorem joinLen {y : Str} {m n : Nat} {xs : List Str} (h : ∀ x ∈ xs, x.length ≤ m) (l : xs.length ≤ n) (hy : y.length = 1) : (Txt.join y xs).length ≤ n * (m + 1) := by
  rw [TL.join_eq]
  have z : ∀ ws : List Str, (∀ x ∈ ws, x.length ≤ m) → (Str.join y ws).length ≤ ws.length * (m + 1) := by
    intro ws
    induction ws with
    | nil => exact fun _ => Nat.zero_le _
    | cons w ws ih =>
      intro hw
      cases ws with
      | nil =>
        have := hw w List.mem_cons_self
        show w.length ≤ 1 * (m + 1)
        omega
      | cons v ws =>
        have a := hw w List.mem_cons_self
        have b := ih fun x hx => hw x (List.mem_cons_of_mem _ hx)
        show (w ++ y ++ Str.join y (v :: ws)).length ≤ _
        rw [TL.len_tl, TL.tl_append, TL.tl_append, List.length_append, List.length_append, ← TL.len_tl, ← TL.len_tl, ← TL.len_tl, hy, List.length_cons (a := w), Nat.add_mul, Nat.one_mul]
        omega
  exact Nat.le_trans (z xs h) (Nat.mul_le_mul_right _ l)
theorem str_app_empty (x : Str) : Str.empty ++ x = x := TL.ext_tl (by rw [TL.tl_append]; rfl)
theorem str_assoc (x y z : Str) : x ++ y ++ z = x ++ (y ++ z) := TL.ext_tl (by simp only [TL.tl_append, List.append_assoc])
theorem len_app (x y : Str) : (x ++ y).length = x.length + y.length := by
  rw [TL.len_tl, TL.tl_append, List.length_append, ← TL.len_tl, ← TL.len_tl]
theorem join3 (a b c : Str) : Txt.join " " [a, b, c] = a ++ " " ++ b ++ " " ++ c := by
  rw [TL.join_eq]
  show a ++ " " ++ (b ++ " " ++ c) = _
  rw [str_assoc (a ++ " " ++ b), str_assoc (a ++ " ") b, str_assoc b]
theorem mem_join_le {y p : Str} : ∀ {xs : List Str}, p ∈ xs → p.length ≤ (Str.join y xs).length
  | [x], h => by
    rw [List.mem_singleton.mp h]
    exact Nat.le_refl _
  | x :: z :: r, h => by
    show _ ≤ (x ++ y ++ Str.join y (z :: r)).length
    rw [len_app, len_app]
    rcases List.mem_cons.mp h with rfl | h
    · omega
    · have := mem_join_le (y := y) h
      omega
theorem part_le (x : Str) {y p : Str} (h : p ∈ Txt.split x y) : p.length ≤ x.length := by
  have := mem_join_le (y := y) h
  rw [StrLaws.join_split] at this
  exact this
theorem spl1_free {s : Nat} : ∀ (l acc : List Nat), s ∉ acc → ∀ p ∈ TL.spl [s] 0 acc l, s ∉ p
  | [], acc, h, p, hp => by
    rw [TL.spl_nil] at hp
    rw [List.mem_singleton.mp hp]
    exact h
  | c :: r, acc, h, p, hp => by
    cases e : TL.pre [s] (c :: r) with
    | true =>
      rw [TL.spl_hit e] at hp
      rcases List.mem_cons.mp hp with rfl | hp
      · exact h
      · exact spl1_free r [] (fun z => nomatch z) p hp
    | false =>
      rw [TL.spl_miss e] at hp
      refine spl1_free r (acc ++ [c]) ?_ p hp
      rw [List.mem_append, List.mem_singleton]
      rintro (z | z)
      · exact h z
      · subst z
        have : ([s] == [s]) = false := e
        simp at this
theorem split_free {x p : Str} (h : p ∈ Txt.split x " ") : 32 ∉ TL.tl p := by
  have e := TL.split_spl x " " (by decide +kernel) (TL.kind_ok (by decide +kernel))
  have m : TL.tl p ∈ (Txt.split x " ").map TL.tl := List.mem_map_of_mem h
  rw [e] at m
  exact spl1_free (TL.tl x) [] (fun z => nomatch z) _ (show TL.tl p ∈ TL.spl [32] 0 [] (TL.tl x) from m)
theorem mem_join_sub {y p : Str} : ∀ {xs : List Str}, p ∈ xs → ∀ c ∈ TL.tl p, c ∈ TL.tl (Str.join y xs)
  | [x], h, c, hc => by
    rw [List.mem_singleton.mp h] at hc
    exact hc
  | x :: z :: r, h, c, hc => by
    show c ∈ TL.tl (x ++ y ++ Str.join y (z :: r))
    rw [TL.tl_append, TL.tl_append, List.mem_append, List.mem_append]
    rcases List.mem_cons.mp h with rfl | h
    · exact .inl (.inl hc)
    · exact .inr (mem_join_sub h c hc)
theorem part_sub {x y p : Str} (h : p ∈ Txt.split x y) : ∀ c ∈ TL.tl p, c ∈ TL.tl x := fun c hc => by
  have := mem_join_sub (y := y) h c hc
  rw [StrLaws.join_split] at this
  exact this
theorem split_ne (x : Str) : Txt.split x " " ≠ [] := fun z => by
  have e := TL.split_spl x " " (by decide +kernel) (TL.kind_ok (by decide +kernel))
  rw [z] at e
  have e' : ([] : List (List Nat)) = TL.spl [32] 0 [] (TL.tl x) := e
  have ne : ∀ (l acc : List Nat), TL.spl [32] 0 acc l ≠ [] := by
    intro l
    induction l with
    | nil =>
      intro acc z
      rw [TL.spl_nil] at z
      cases z
    | cons c r ih =>
      intro acc z
      cases h : TL.pre [32] (c :: r) with
      | true =>
        rw [TL.spl_hit h] at z
        cases z
      | false =>
        rw [TL.spl_miss h] at z
        exact ih _ z
  exact ne _ _ e'.symm
def dig (c : Nat) : Bool := decide (c ∈ ("0123456789" : Str).cps.toList)
theorem dig_iff (c : Nat) : dig c = true ↔ 48 ≤ c ∧ c ≤ 57 := by
  unfold dig
  rw [decide_eq_true_eq]
  constructor
  · intro h
    have z : ∀ d ∈ ("0123456789" : Str).cps.toList, 48 ≤ d ∧ d ≤ 57 := by decide +kernel
    exact z c h
  · rintro ⟨h1, h2⟩
    have z : ∀ d : Fin 10, 48 + d.val ∈ ("0123456789" : Str).cps.toList := by decide +kernel
    have := z ⟨c - 48, by omega⟩
    rwa [show 48 + (c - 48) = c by omega] at this
def lawNum (x : Str) : Option Nat := if TL.tl x = [] ∨ ¬ (TL.tl x).all dig = true ∨ ((TL.tl x).head? = some 48 ∧ 1 < x.length) then none else some (NumText.digitsVal (TL.tl x))
theorem all_dig {cs : List Nat} (h : cs.all dig = true) : NumText.AllDigits cs := fun c hc => (dig_iff c).mp (List.all_eq_true.mp h c hc)
theorem to_of : ∀ {cs : List Nat}, NumText.AllDigits cs → (cs.map Char.ofNat).map Char.toNat = cs
  | [], _ => rfl
  | c :: cs, h => by
    have hc := h c List.mem_cons_self
    have z : ∀ d : Fin 10, (Char.ofNat (48 + d.val)).toNat = 48 + d.val := by decide +kernel
    have := z ⟨c - 48, by omega⟩
    simp only [show 48 + (c - 48) = c by omega] at this
    rw [List.map_cons, List.map_cons, this, to_of fun d hd => h d (List.mem_cons_of_mem _ hd)]
theorem lawNum_some {x : Str} {n : Nat} (h : lawNum x = some n) : numS n = x ∧ n = NumText.digitsVal (TL.tl x) ∧ TL.tl x ≠ [] ∧ NumText.AllDigits (TL.tl x) := by
  unfold lawNum at h
  split at h
  · cases h
  · next c =>
    injection h with h
    have ne : TL.tl x ≠ [] := fun z => c (.inl z)
    have al : (TL.tl x).all dig = true := Decidable.of_not_not fun z => c (.inr (.inl z))
    have nz : ¬ ((TL.tl x).head? = some 48 ∧ 1 < x.length) := fun z => c (.inr (.inr z))
    have ad := all_dig al
    refine ⟨TL.ext_tl ?_, h.symm, ne, ad⟩
    unfold numS
    rw [TL.tl_num, ← h]
    unfold TL.numL
    obtain ⟨m, hm⟩ : ∃ m, (TL.tl x).length = m + 1 := by
      cases e : TL.tl x with
      | nil => exact absurd e ne
      | cons c r => exact ⟨r.length, rfl⟩
    rw [NumText.toDigits_digitsVal m _ hm ad ?_, to_of ad]
    by_cases m0 : m = 0
    · exact .inl m0
    · refine .inr ?_
      cases e : TL.tl x with
      | nil => exact absurd e ne
      | cons c r =>
        refine ⟨c, r, rfl, ?_⟩
        have hc := ad c (by rw [e]; exact List.mem_cons_self)
        have : c ≠ 48 := fun z => nz ⟨by rw [e, z]; rfl, by rw [TL.len_tl]; omega⟩
        omega
theorem numL_head : ∀ n : Nat, 0 < n → ∃ c r, TL.numL n = c :: r ∧ 49 ≤ c := by
  intro n
  induction n using Nat.strongRecOn with
  | _ n ih =>
    intro h
    by_cases l : n < 10
    · exact ⟨48 + n, [], TL.numL_lt l, by omega⟩
    · obtain ⟨c, r, e, hc⟩ := ih (n / 10) (by omega) (by omega)
      refine ⟨c, r ++ [48 + n % 10], ?_, hc⟩
      rw [TL.numL_step (by omega), e]
      rfl
theorem lawNum_num (n : Nat) : lawNum (numS n) = some n := by
  unfold lawNum
  have e : TL.tl (numS n) = TL.numL n := by unfold numS; exact TL.tl_num n
  have len : (numS n).length = (TL.numL n).length := by rw [TL.len_tl, e]
  rw [e, if_neg]
  · rw [TL.numL_val]
  · rintro (z | z | ⟨z1, z2⟩)
    · exact TL.numL_ne n z
    · refine z (List.all_eq_true.mpr fun c hc => (dig_iff c).mpr (TL.numL_digits n c hc))
    · by_cases h : n = 0
      · rw [len, h, TL.numL_lt (by decide)] at z2
        exact absurd z2 (by decide)
      · obtain ⟨c, r, e2, hc⟩ := numL_head n (by omega)
        rw [e2] at z1
        injection z1 with z1
        omega
theorem pIdx_law (x : Str) (k : Nat) : pIdx x k = (match lawNum x with | some n => if n < k then some n else none | none => none) := by
  cases e : lawNum x with
  | some n =>
    have h := (lawNum_some e).1
    show _ = if n < k then some n else none
    split
    · next l =>
      rw [← h]
      exact pIdx_num l
    · next l =>
      cases p : pIdx x k with
      | none => rfl
      | some i =>
        obtain ⟨p1, p2, _⟩ := pIdx_some p
        have := numS_inj (p1.trans h.symm)
        omega
  | none =>
    show _ = none
    cases p : pIdx x k with
    | none => rfl
    | some i =>
      have := (pIdx_some p).1
      rw [← this, lawNum_num] at e
      cases e
theorem smls_strs : ∀ {ps : List Str}, (∀ p ∈ ps, p.length ≤ 640) → smls (ps.map PyData.str) = true
  | [], _ => rfl
  | p :: ps, h => by
    show (decide (p.length ≤ 640) && smls (ps.map PyData.str)) = true
    rw [decide_eq_true (h p List.mem_cons_self), smls_strs fun q hq => h q (List.mem_cons_of_mem _ hq)]
    rfl
theorem sml_o (o : Option Nat) : sml (oD o) = true := by
  cases o <;> rfl
end My

namespace My
open PySem PySem.Spec PyProof.Rows L2 Gy Xl Xs Xt
/-- a class of errors with one field: raised -/
structure Rz (P : Program) (w : World) (K : PySem.W.Frag) (mg : Str → Option Value) (base : Heap) (nm f : Str) (C : Addr) : Prop where
  gm : mg nm = some (.ref C)
  ty : PySem.W.typeIn K (.ref C) = some (.type "type")
  ex : ∃ (fI : Addr) (fd : FuncData), XIn K C fI ∧ FnOk P w K mg base CX0 1 fI fd ["self", f] (spI1 C f) ∧ XB K fd ["self", f] [] (fun us _ => us) (fun vs _ => vs)
/-- what is wanted where C(v) is raised -/
def Ro (E : XK) (C : Addr) (f : Str) (v : V) (H : Hp) : Prop := ∀ H' dx, Same H H' → H' dx = some (.xd [(f, v)]) → E (.ref C) (some dx) H'
theorem Ro.same {E : XK} {C : Addr} {f : Str} {v : V} {H H1 : Hp} (h : Ro E C f v H) (s : Same H H1) : Ro E C f v H1 := fun H' dx s1 e => h H' dx (s.trans s1) e
theorem le400 {n : Nat} (h : n ≤ 10000) : n ≤ sizeLine := Nat.le_trans h (by decide)
section
variable {P : Program} {w : World} {K : PySem.W.Frag} {mg : Str → Option Value} {base : Heap} {H : Hp}
theorem dn_o (o : Option Nat) : Dn K H (oV o) (oD o) := by
  cases o with
  | none => exact .non
  | some i => exact .int _
theorem dns_strs : ∀ xs : List Str, Dns K H (xs.map V.str) (xs.map PyData.str)
  | [] => .nil
  | x :: xs => .cons (.str x) (dns_strs xs)
def spPI : Sp := fun vs H Q _ => ∃ (x : Str) (n : Int), vs = [.str x, .int n] ∧ -1000 ≤ n ∧ n ≤ 1000 ∧ ∀ H', Same H H' → Q (oV (pIdx x n.toNat)) H'
theorem ok_pi {f : Addr} {fd : FuncData} (F : Fun K "parse_index" "parse_index" s_parse_index f fd) (Y : Bn mg) : FnOk P w K mg base CX0 1 f fd ["text", "size"] spPI := by
  refine F.ok sc_parse_index (fun vs H Q E h => ?_) (fun cdv A outer s H vs Q E hr h => ?_)
  · obtain ⟨x, n, rfl, _⟩ := h
    rfl
  · obtain ⟨x, n, rfl, n0, n1, q⟩ := h
    refine ⟨_, (pss_cons (ps_setLc (i := 2) (own := [("index", 3)]) (g := gName 3) (tt := tYes) rfl sc_parse_index.nd rfl rfl (sw_true rfl rfl rfl (by decide +kernel)) (pi_range1 (by rfl) Y.range (pa_cons (pv 1) pa_nil)) (blkOk_by (N := ["text", "size", "written", "index"]) (sc := defScope s_parse_index) (by decide +kernel)) (fun _ _ _ _ _ => (pg_name (i := 3) sc_parse_index.nd rfl (Or.inl rfl))) (fun _ _ _ _ _ => pts_nil) (fun _ _ _ _ _ => (pe_callTy call_str_int (by rfl) Y.str (by decide +kernel) (pa_cons (pv 3) pa_nil))))
 (pss_one (ps_ret (pe_ifExp (pt_cmpR op_in_seq (pv 0) (pv 2) rfl) (pe_bm PySem.F.plainAttrs_list PySem.F.slot_list_index PySem.F.type_list_index mt_index (pv 2) (pa_cons (pv 0) pa_nil)) pe_non)))), ?_⟩
    refine ⟨_, rfl, n, rfl, by omega, by omega, fun D hD => ?_⟩
    refine lc_it (walk_range (lo := 0) (n := n.toNat)) (fun i H' => Same H H' ∧ H' D = some (.lst ((nums i).map V.str))) ⟨same_upd hD, upd_same⟩ (fun _ _ _ _ => trivial) ?_ ?_
    · rintro i y H1 H2 hi ⟨s1, hL⟩ ⟨rfl, rfl⟩
      refine ⟨rfl, ?_⟩
      dsimp only [tYes]
      refine iteT ?_
      refine ⟨_, rfl, _, rfl, ?_, _, hL, ?_, same_upd2 s1 hD, ?_⟩
      · rw [Int.zero_add]
        show i.log2 < 1920
        exact log2_small (k := 10) (by show i < 1024; omega) (by decide)
      · rw [List.length_map, nums_len]
        exact Nat.lt_of_lt_of_le (show i < 1000 by omega) (le400 (by decide))
      · rw [upd_same, nums_succ, List.map_append, Int.zero_add]
        rfl
    · rintro H1 ⟨s1, hL⟩
      refine ⟨_, rfl, _, rfl, D, _, rfl, .inl (SqL.of hL), rfl, flat_strs _, _, rfl, ite2 (fun c => ?_) (fun c => ?_)⟩
      · have c' : inV (.str x) ((nums n.toNat).map V.str) = true := c
        rw [inV_strs] at c'
        obtain ⟨i, hi⟩ := nums_mem.mp (of_decide_eq_true c')
        obtain ⟨e1, e2, e3⟩ := pIdx_some hi
        rw [hi] at q
        refine ⟨_, rfl, .inl ⟨rfl, _, SqL.of hL⟩, _, rfl, D, _, _, i, .str (numS i), rfl, rfl, SqL.of hL, rfl, flat_strs _, ?_, ?_, ?_, q _ s1⟩
        · rw [List.getElem?_map, nums_get e2]
          rfl
        · show (numS i == x) = true
          rw [beq_iff_eq]
          exact e1
        · intro m z hm hz
          rw [List.getElem?_map, nums_get (by omega)] at hz
          injection hz with hz
          subst hz
          show (numS m == x) = false
          rw [beq_eq_false_iff_ne]
          exact e3 m hm
      · have c' : ¬ inV (.str x) ((nums n.toNat).map V.str) = true := c
        rw [inV_strs, decide_eq_true_eq] at c'
        have e : pIdx x n.toNat = none := by
          cases e : pIdx x n.toNat with
          | none => rfl
          | some i => exact absurd (nums_mem.mpr ⟨i, e⟩) c'
        rw [e] at q
        exact q _ s1
def spRT : Sp := fun vs H Q _ => ∃ (a b : Addr) (xs : List Str) (c : Nat), vs = [.ref a] ∧ Tz H a [.ref b, .int (c : Int)] ∧ Tz H b (xs.map V.str) ∧ (∀ x ∈ xs, x.length ≤ 8) ∧ xs.length ≤ 700 ∧ c ≤ 1000 ∧ Q (.str (Txt.join "," xs ++ " " ++ numS c)) H
theorem ok_rt {f : Addr} {fd : FuncData} (F : Fun K "relink_text" "relink_text" s_relink_text f fd) : FnOk P w K mg base CX0 1 f fd ["relink"] spRT := by
  refine F.ok sc_relink_text (fun vs H Q E h => ?_) (fun cdv A outer s H vs Q E hr h => ?_)
  · obtain ⟨a, b, xs, c, rfl, _⟩ := h
    rfl
  · obtain ⟨a, b, xs, c, rfl, ha, hb, lx, l200, c1, q⟩ := h
    refine ⟨_, (pss_cons (ps_asg (pv 0) (pg_tup (by rfl) (pgs_cons (pg_name (i := 1) sc_relink_text.nd rfl (Or.inl rfl)) (pgs_cons (pg_name (i := 2) sc_relink_text.nd rfl (Or.inl rfl)) pgs_nil))))
 (pss_cons (ps_set (i := 3) sc_relink_text.nd rfl (.inl rfl) (pe_join pe_str (pv 1)))
 (pss_one (ps_ret (pe_joined (.cons (pe_fmt (pv 3)) (.cons pe_str (.cons (pe_fmt (pv 2)) .nil)))))))), ?_⟩
    have jl : (Txt.join "," xs).length ≤ 700 * (8 + 1) := joinLen lx l200 rfl
    refine ⟨_, rfl, a, _, rfl, ha.sq, rfl, _, _, rfl, _, _, rfl, rfl, ?_⟩
    refine ⟨⟨_, rfl⟩, _, rfl, _, b, xs, rfl, rfl, .inr hb.sq, ?_, ?_⟩
    · have z : (xs.map (·.length)).sum ≤ xs.length * 8 := sum_le lx
      have y : ((",": Str)).length = 1 := rfl
      rw [y]
      omega
    have lN : (numS c).length ≤ 4 := numS_len (by decide) (by show c < 10000; omega)
    refine ⟨_, rfl, .inl ⟨_, rfl, le400 (by omega), ?_⟩⟩
    refine ⟨_, rfl, (by rw [str_app_empty]; exact le400 (by omega)), ?_⟩
    refine ⟨_, rfl, (by rw [str_app_empty, len_app]; exact le400 (by show _ + 1 ≤ _; omega)), ?_⟩
    refine ⟨_, rfl, .inr ⟨_, rfl, log2_small (i := c) (k := 10) (by show c < 1024; omega) (by decide), ?_⟩⟩
    refine ⟨numS c, rfl, ?_, ?_⟩
    · rw [str_app_empty, len_app, len_app]
      exact le400 (by show _ + 1 + _ ≤ _; omega)
    rw [str_app_empty]
    exact q
def spRF : Sp := fun vs H Q _ => ∃ (h c : Str), vs = [.str h, .str c] ∧ h.length ≤ 900 ∧ ∀ H' (t p : Addr), Same H H' → Tz H' t [.ref p, oV (pIdx c ((Txt.split h ",").length - 1))] → Tz H' p ((Txt.split h ",").map V.str) → Q (.ref t) H'
theorem ok_rf {f : Addr} {fd : FuncData} (F : Fun K "relink_from" "relink_from" s_relink_from f fd) (Y : Bn mg) (G_parse_index : Fk P w K mg base CX0 1 "parse_index" ["text", "size"] spPI) : FnOk P w K mg base CX0 2 f fd ["hosts", "cut"] spRF := by
  refine F.ok sc_relink_from (fun vs H Q E h => ?_) (fun cdv A outer s H vs Q E hr h => ?_)
  · obtain ⟨h, c, rfl, _⟩ := h
    rfl
  · obtain ⟨h, c, rfl, l9, q⟩ := h
    refine ⟨_, (pss_cons (ps_set (i := 2) sc_relink_from.nd rfl (.inl rfl) (pe_callTy call_tupOf (by rfl) Y.tuple (by decide +kernel) (pa_cons (pe_split (pv 0) pe_str) pa_nil)))
 (pss_one (ps_ret (pe_tupZ (pa_cons (pv 2) (pa_cons (pe_callF G_parse_index (hr.mono (by decide)) (by rfl) pass0 (pa_cons (pv 1) (pa_cons (pe_op op_sub (pe_callB call_len_seq (by rfl) Y.len PySem.boot_len (pa_cons (pv 2) pa_nil)) pe_int) pa_nil))) pa_nil)))))), ?_⟩
    have sl := PyProof.Rows.split_le h ","
    refine ⟨_, rfl, ⟨_, rfl⟩, _, _, rfl, rfl, rfl, le400 (by omega), fun L nL => ?_⟩
    generalize hg : upd _ L _ = H1
    obtain ⟨s1, g1⟩ := (show Same H H1 ∧ H1 L = some (.lst ((Txt.split h ",").map V.str)) by rw [← hg]; exact ⟨same_upd nL, upd_same⟩)
    clear hg
    refine ⟨L, _, rfl, SqL.of g1, (by rw [List.length_map]; omega), fun p o np sp tp => ?_⟩
    generalize upd _ p o = H2 at sp tp ⊢
    refine ⟨_, rfl, _, rfl, _, rfl, p, _, rfl, .inr tp.sq, _, 1, rfl, rfl, c, _, rfl, ?_, ?_, fun H3 s3 => ?_⟩
    · omega
    · rw [List.length_map]
      omega
    refine ⟨(by show 2 ≤ sizeLine; decide), fun t ot nt st tt => ?_⟩
    refine q _ t p (((s1.trans sp).trans s3).trans st) ?_ ((tp.same s3).same st)
    have e : (((Txt.split h ",").map V.str).length - 1 : Int).toNat = (Txt.split h ",").length - 1 := by
      rw [List.length_map]
      omega
    rw [e] at tt
    exact tt
end
end My

/-! A tuple turned about: t[::-1]. Tuples, and any value, compared. -/
namespace Xt
open PySem PySem.Spec PyProof.Rows L2 Gy
theorem back_ends (n : Nat) : Builtin.Slice.sliceAdjust none none (-1) (n : Int) = ((n : Int) - 1, -1) := rfl
theorem back_places (n : Nat) : Builtin.Slice.slicePlaces ((n : Int) - 1) (-1) (-1) = n := by
  unfold Builtin.Slice.slicePlaces
  rw [if_neg (by decide)]
  by_cases h : n = 0
  · subst h
    rfl
  · rw [if_pos (by omega), show (- -1 : Int) = 1 from rfl, Int.ediv_one]
    omega
theorem back_pick (xs : Array Value) : ((List.range xs.size).filterMap fun (m : Nat) => xs[(((xs.size : Int) - 1) + (m : Int) * (-1)).toNat]?).toArray = xs.toList.reverse.toArray := by
  congr 1
  refine List.ext_getElem? fun i => ?_
  have key : ∀ k, k ≤ xs.size → (List.range k).filterMap (fun (m : Nat) => xs[(((xs.size : Int) - 1) + (m : Int) * (-1)).toNat]?) = xs.toList.reverse.take k := by
    intro k
    induction k with
    | zero => intro _; rfl
    | succ k ih =>
      intro hk
      have lt : xs.size - 1 - k < xs.size := by omega
      have e : (((xs.size : Int) - 1) + (k : Int) * (-1)).toNat = xs.size - 1 - k := by omega
      have g : xs.toList.reverse[k]? = some xs[xs.size - 1 - k] := by
        have l : k < xs.toList.reverse.length := by
          rw [List.length_reverse, Array.length_toList]
          omega
        rw [List.getElem?_eq_getElem l, List.getElem_reverse]
        simp
      rw [List.range_succ, List.filterMap_append, ih (by omega), List.take_add_one, g]
      congr 1
      rw [List.filterMap_cons_some (b := xs[xs.size - 1 - k]) (by rw [e]; exact Array.getElem?_eq_getElem lt)]
      rfl
  rw [key xs.size (Nat.le_refl _), List.take_of_length_le (by rw [List.length_reverse, Array.length_toList]; exact Nat.le_refl _)]
section
variable {prog : Program} {w : World} {A : Around} {E : Value → Shared → Prop} {s : Shared}
theorem applied_back {sl : Addr} {vl vu vs : Value} {n : Nat} {Q : Int × Int × Nat → Shared → Prop} (hs : s.heap.IsSliceOf sl vl vu vs) (pl : IsPart vl none) (pu : IsPart vu none) (ps : IsPart vs (some (-1)))
    (h : Q ((n : Int) - 1, -1, n) s) : wpAny (model prog w) A (Builtin.Slice.sliceApplied (.ref sl) (pure (n : Int))) Q E s := by
  obtain ⟨o, e1, e2, e3⟩ := id hs
  unfold Builtin.Slice.sliceApplied Builtin.Slice.sliceFields
  refine wpAny_bind (wpAny_bind (wpAny_field e1 e3 (x := vl) rfl ?_))
  refine wpAny_bind (wpAny_field e1 e3 (x := vu) rfl ?_)
  refine wpAny_bind (wpAny_field e1 e3 (x := vs) rfl (wpAny_pure ?_))
  refine wpAny_bind (HT.slicePart_ ps ?_)
  show wpAny _ _ (if ((-1 : Int) == 0) = true then _ else _) _ _ s
  rw [if_neg (by decide)]
  refine wpAny_bind (HT.slicePart_ pl ?_)
  refine wpAny_bind (HT.slicePart_ pu ?_)
  refine wpAny_bind (wpAny_pure ?_)
  show wpAny _ _ (pure ((Builtin.Slice.sliceAdjust none none (-1) (n : Int)).1, (-1 : Int), Builtin.Slice.slicePlaces (Builtin.Slice.sliceAdjust none none (-1) (n : Int)).1 (Builtin.Slice.sliceAdjust none none (-1) (n : Int)).2 (-1))) _ _ s
  rw [back_ends, back_places]
  exact wpAny_pure h
theorem item_back {t sl : Addr} {items : Array Value} {vl vu vs : Value} {Q : Value → Shared → Prop} (ht : IsTup s.heap t items) (hs : s.heap.IsSliceOf sl vl vu vs) (pl : IsPart vl none) (pu : IsPart vu none) (ps : IsPart vs (some (-1)))
    (h : Q (.ref s.heap.objs.size) { s with heap := s.heap.push { cls := .type "tuple", data := .seq items.toList.reverse.toArray } }) (hz : items.size ≤ sizeLine) : wpAny (model prog w) A (getItem (.ref t) (.ref sl)) Q E s := by
  have fits : sizeOk (.seq items.toList.reverse.toArray) := by
    show items.toList.reverse.toArray.size ≤ sizeLine
    rw [List.size_toArray, List.length_reverse, Array.length_toList]
    exact hz
  obtain ⟨o, e1, e2, e3⟩ := id hs
  have ty : s.TypeIs (.ref sl) "slice" := ⟨o, e1, e2⟩
  unfold getItem
  try with_reducible refine wpAny_holding ?_
  first
    | refine wpAny_bind (wpAny_pure ?_)
    | skip
  refine wpAny_bind (wpAny_sequenceKey ht.typeIs (by decide) ?_)
  refine wpAny_bind (wpAny_callSpecial?_slot (name := Str.ofString "__getitem__") ht.typeIs PyProof.Rows.slot_tuple_getitem (wpAny_call_entry PyProof.Rows.slot_tuple_getitem ht.typeIs entry_tuple_getitem ?_ (args_tuple_getitem _ _)))
  refine (?_ : wpAny _ _ (Builtin.Tuple.tupleItemsOf (.ref t) >>= _) _ _ s)
  refine wpAny_bind (tupleItemsOf_ ht ?_)
  refine wpAny_bind (wpAny_typeOf ty ?_)
  rw [if_pos (by decide)]
  refine wpAny_bind (applied_back hs pl pu ps ?_)
  have no : ¬ ((((items.size : Int) - 1) == 0 && (-1 : Int) == 1 && items.size == items.size) = true) := fun q => by
    rw [Bool.and_eq_true, Bool.and_eq_true] at q
    exact absurd q.1.2 (by decide)
  refine (?_ : wpAny _ _ (if (((items.size : Int) - 1) == 0 && (-1 : Int) == 1 && items.size == items.size) = true then _ else _) _ _ s)
  rw [if_neg no, back_pick]
  first
    | exact wpAny_bind (m := Builtin.Tuple.tupleExact _) (wpAny_newObj_type (wpAny_pure ⟨_, rfl, wpAny_pure h⟩) fits)
    | exact wpAny_bind (wpAny_bind (m := Builtin.Tuple.tupleExact _) (wpAny_newObj_type (wpAny_pure (wpAny_pure ⟨_, rfl, wpAny_pure h⟩)) fits))
    | exact wpAny_bind (wpAny_bind (m := Builtin.Tuple.tupleExact _) (wpAny_newObj_type (wpAny_pure ⟨_, rfl, wpAny_pure h⟩) fits))
end
section
variable {X : Cx}
/-- t[::-1] -/
def tRevT (K : PySem.W.Frag) (te : TE) : TE := fun σ H Q => te σ H fun x H1 => ∃ a xs, x = .ref a ∧ SqT K H1 a xs ∧ NewT xs.reverse H1 Q
theorem pe_revT {e : Expr} {te : TE} {k : Nat} {p1 p2 p3 pos : Pos} (he : PE X e te) : PE X (.Subscript e (.Slice none none (some (.UnaryOp .USub (.Constant (.int 1) k p1) p2)) p3) pos) (tRevT X.K te) := by
  constructor
  intro pins s σ H Q I h
  refine Subscript_ (thn (he.run pins s σ H _ I h) ?_)
  rintro v s1 ⟨x, H1, I1, r1, a, xs, rfl, hx, q⟩
  cases r1
  have hst : PO X (some (.UnaryOp .USub (.Constant (.int 1) k p1) p2)) (tPart (tUn (rU fun i => .int (-i)) (tC (.int 1)))) := po_some (pe_un un_neg pe_int)
  refine wpAny_Slice (thn (po_none.run pins s1 σ H1 (fun o H2 => o = none ∧ H2 = H1) I1 ⟨rfl, rfl⟩) ?_)
  rintro vl s2 ⟨l, H2, I2, pl, rfl, rfl⟩
  refine thn (po_none.run pins s2 σ H2 (fun o H3 => o = none ∧ H3 = H2) I2 ⟨rfl, rfl⟩) ?_
  rintro vu s3 ⟨u, H3, I3, pu, rfl, rfl⟩
  refine thn (hst.run pins s3 σ H3 (fun o H4 => o = some (-1) ∧ H4 = H3) I3 ⟨1, rfl, -1, rfl, rfl, rfl⟩) ?_
  rintro vs s4 ⟨o, H4, I4, ps, rfl, rfl⟩
  have I5 : Inv X pins σ H4 { s4 with heap := s4.heap.push { cls := .type "slice", data := .fields #[vl, vu, vs] } } := I4.kept (t' := s4.toks) fun b ob z => Heap.get?_push_of_some _ z
  obtain ⟨its, r, ht, hz⟩ := I5.tuple hx
  have len := r.length
  refine (?_ : wpAny (model X.prog X.w) X.A (subscriptTail e _ (.ref a) (.ref s4.heap.objs.size)) (EP X pins σ Q) X.xe _)
  refine tail_any (ops := [.ref a, .ref s4.heap.objs.size]) ht.typeIs (PyProof.Rows.slot_tuple_getitem.lookup) ?_ (by with_unfolding_all rfl)
  refine item_back ht (Heap.IsSliceOf.new _ vl vu vs) pl pu ps ?_ (by rw [List.size_toArray]; omega)
  exact lay_new (n := 0) I5 (by rw [List.length_reverse]; exact hz) r.reverse q
/-- t == u, t != u: one of them has no items -/
def rEmT (K : PySem.W.Frag) (f : Bool → Bool) : R2 := fun x y H Q => ∃ a b xs, x = .ref a ∧ y = .ref b ∧ SqT K H a xs ∧ SqT K H b [] ∧ Q (.bl (f xs.isEmpty)) H
theorem op_eqEmT (hu : X.A.units < cLine) : OpR X (compareOp .Eq) (rEmT X.K id) := by
  intro pins s σ H x y v u Q I rx ry h
  obtain ⟨a, b, xs, rfl, rfl, ha, hb, q⟩ := h
  cases rx
  cases ry
  obtain ⟨i1, r1, t1, _⟩ := I.tuple ha
  obtain ⟨i2, r2, t2, _⟩ := I.tuple hb
  cases r2
  refine SeqAt.eq_tupleAt (e := fun _ => true) t1 t2 hu (fun j h1 h2 => absurd h2 (Nat.not_lt_zero j)) ?_
  refine ⟨.bl (id xs.isEmpty), H, I, ?_, q⟩
  have l := r1.length
  cases xs with
  | nil =>
    cases r1
    rfl
  | cons y ys =>
    cases i1 with
    | nil => cases l
    | cons z zs => rfl
theorem op_neEmT (hu : X.A.units < cLine) : OpR X (compareOp .NotEq) (rEmT X.K not) := by
  intro pins s σ H x y v u Q I rx ry h
  obtain ⟨a, b, xs, rfl, rfl, ha, hb, q⟩ := h
  cases rx
  cases ry
  obtain ⟨i1, r1, t1, _⟩ := I.tuple ha
  obtain ⟨i2, r2, t2, _⟩ := I.tuple hb
  cases r2
  refine SeqAt.RcNeAt.tuples (e := fun _ => true) t1 t2 hu (fun j h1 h2 => absurd h2 (Nat.not_lt_zero j)) _ _ _ _ ?_
  refine ⟨.bl (not xs.isEmpty), H, I, ?_, q⟩
  have l := r1.length
  cases xs with
  | nil =>
    cases r1
    rfl
  | cons y ys =>
    cases i1 with
    | nil => cases l
    | cons z zs => rfl
end
end Xt
namespace Xt
open PySem PySem.Spec PyProof.Rows L2 Gy
/-- l == []: a list and one without items -/
def rEmL (K : PySem.W.Frag) : R2 := fun x y H Q => ∃ a b xs, x = .ref a ∧ y = .ref b ∧ SqL K H a xs ∧ SqL K H b [] ∧ Q (.bl xs.isEmpty) H
theorem op_eqEmL {X : Cx} (hu : X.A.units < cLine) : OpR X (compareOp .Eq) (rEmL X.K) := by
  intro pins s σ H x y v u Q I rx ry h
  obtain ⟨a, b, xs, rfl, rfl, ha, hb, q⟩ := h
  cases rx
  cases ry
  obtain ⟨i1, r1, t1, _⟩ := I.list ha
  obtain ⟨i2, r2, t2, _⟩ := I.list hb
  cases r2
  cases xs with
  | nil =>
    cases r1
    exact SeqAt.eq_listAt (e := fun _ => true) t1.isList t2.isList rfl hu (fun j h1 h2 => absurd h2 (Nat.not_lt_zero j)) ⟨.bl true, H, I, rfl, q⟩
  | cons y ys =>
    cases r1 with
    | cons h t =>
      exact SeqAt.eq_list_lengthsAt t1.isList t2.isList (by simp) hu ⟨.bl false, H, I, rfl, q⟩
end Xt

/-! v == text, for any value of data. -/
namespace Gy
open PySem PySem.Spec PyProof.Rows L2 Xt
theorem dict_no_str (l : Addr) (es : Array DictEntry) (ep : Nat) (dd : Option Addr) (sl : Array (Option Value)) (b : Str) (u : Tok) :
    Meets (Builtin.«dict.__eq__» ⟨[.ref l, .str b u], []⟩) (fun _ R s => s.heap.get? l = some ⟨.type "dict", dd, .dict es ep, sl⟩ ∧ R (.ok (.ret .notImplemented)) s) := by
  refine .of_wp fun prog w A R s h => ?_
  obtain ⟨hp, g, d, tk, os⟩ := s
  obtain ⟨hl, h⟩ := h
  have f1 : isSubtype (.type "str") (.type "dict") = pure false := by rw [isSubtype_type]; kernel_rfl
  wp_walk using wpAny_loadPart' hl, wpAny_load hl
  exact ⟨_, rfl, h⟩
theorem str_no_dict (l : Addr) (es : Array DictEntry) (ep : Nat) (dd : Option Addr) (sl : Array (Option Value)) (b : Str) (u : Tok) :
    Meets (Builtin.«str.__eq__» ⟨[.str b u, .ref l], []⟩) (fun _ R s => s.heap.get? l = some ⟨.type "dict", dd, .dict es ep, sl⟩ ∧ R (.ok (.ret .notImplemented)) s) := by
  refine .of_wp fun prog w A R s h => ?_
  obtain ⟨hp, g, d, tk, os⟩ := s
  obtain ⟨hl, h⟩ := h
  wp_walk using wpAny_loadPart' hl, wpAny_load hl
  exact ⟨_, rfl, h⟩
theorem rc_dict_str {A : Around} {s : Shared} {l : Addr} {o : Obj} {es : Array DictEntry} {ep : Nat} (b : Str) (u : Tok) (ho : s.heap.get? l = some o) (hc : o.cls = .type "dict") (hd : o.data = .dict es ep) (hu : A.units < cLine)
    {prog : Program} {w : World} {E Q : Value → Shared → Prop} (h : Q (.bool false) s) : wpAny (model prog w) A (richCompare .Eq (.ref l) (.str b u)) Q E s := by
  obtain ⟨cls, dd, dat, sl⟩ := o
  dsimp only at hc hd
  subst hc hd
  refine SeqAt.rc_eq_decline_or (k := false) ⟨_, ho, rfl⟩ (typeIs_str s b u) (by decide) F.sub_str_dict F.slot_dict_eq F.slot_str_eq_refl ?_ ?_ ?_ (.inr hu) h
  · exact fun _ q => call_meets F.slot_dict_eq ⟨_, ho, rfl⟩ F.entry_dict_eq (F.args_dict_eq_2 _ _) (dict_no_str l es ep dd sl b u) ⟨ho, q⟩
  · exact fun _ q => call_meets F.slot_str_eq_refl (typeIs_str s b u) F.entry_str_eq (F.args_str_eq_2 _ _) (str_no_dict l es ep dd sl b u) ⟨ho, q⟩
  · exact fun _ q => wpAny_of_eq (rfl : isSame (.ref l) (.str b u) = pure false) q
/-- whether it is this text -/
def isTx (x : Str) : PyData → Bool
  | .str y => decide (V.str y = V.str x)
  | _ => false
def rEqS (K : PySem.W.Frag) : R2 := fun a b H Q => ∃ (d : PyData) (x : Str), b = .str x ∧ Dn K H a d ∧ Q (.bl (isTx x d)) H
theorem op_eqS {X : Cx} (hu : X.A.units < cLine) : OpR X (compareOp .Eq) (rEqS X.K) := by
  intro pins s σ H a b v u Q I rx ry h
  obtain ⟨d, x, rfl, dn, q⟩ := h
  cases dn with
  | non => exact op_eq pins s σ H _ _ v u Q I rx ry ⟨rfl, q⟩
  | bl c => exact op_eq pins s σ H _ _ v u Q I rx ry ⟨rfl, q⟩
  | int i => exact op_eq pins s σ H _ _ v u Q I rx ry ⟨rfl, q⟩
  | str y => exact op_eq pins s σ H _ _ v u Q I rx ry ⟨rfl, q⟩
  | lst h1 _ =>
    cases rx
    obtain ⟨t, rfl⟩ := ry
    obtain ⟨its, _, hl, _⟩ := I.list (SqL.of h1)
    exact SeqAt.RcAt.list_str x t hl.isList hu _ _ _ _ ⟨.bl false, H, I, rfl, q⟩
  | tup h1 _ =>
    cases rx
    obtain ⟨t, rfl⟩ := ry
    obtain ⟨its, _, ht, _⟩ := I.tuple h1.sq
    exact SeqAt.RcAt.tuple_str x t ht hu _ _ _ _ ⟨.bl false, H, I, rfl, q⟩
  | dic h1 =>
    cases rx
    obtain ⟨t, rfl⟩ := ry
    obtain ⟨_, o, es, ep, g1, g2, g3, _, _⟩ := dict_at I h1
    exact rc_dict_str x t g1 g2 g3 hu ⟨.bl false, H, I, rfl, q⟩
end Gy

namespace My
open PySem PySem.Spec PyProof.Rows L2 Gy Xl Xs Xt
/-! ### data that stand while the pot changes -/
def wo (r : Addr) (H : Hp) : Hp := fun a => if a = r then none else H a
theorem wo_at {r a : Addr} {H : Hp} (n : a ≠ r) : wo r H a = H a := if_neg n
theorem wo_same (r : Addr) (H : Hp) : Same (wo r H) H := fun b o e => by
  by_cases h : b = r
  · rw [wo, if_pos h] at e
    cases e
  · rw [wo_at h] at e
    exact e
theorem wo_but {r : Addr} {H H' : Hp} (h : But r H H') : Same (wo r H) (wo r H') := fun b o e => by
  by_cases n : b = r
  · rw [wo, if_pos n] at e
    cases e
  · rw [wo_at n] at e
    rw [wo_at n]
    exact h b o n e
section
variable {K : PySem.W.Frag} {H H' : Hp} {r : Addr}
/-- data none of which is the pot -/
def Db (K : PySem.W.Frag) (r : Addr) (H : Hp) (v : V) (d : PyData) : Prop := Dn K (wo r H) v d
def Dbs (K : PySem.W.Frag) (r : Addr) (H : Hp) (vs : List V) (ds : List PyData) : Prop := Dns K (wo r H) vs ds
theorem Db.dn {v : V} {d : PyData} (h : Db K r H v d) : Dn K H v d := Dn.same (wo_same r H) h
theorem Db.but {v : V} {d : PyData} (h : Db K r H v d) (b : But r H H') : Db K r H' v d := Dn.same (wo_but b) h
theorem Db.same {v : V} {d : PyData} (h : Db K r H v d) (s : Same H H') : Db K r H' v d := h.but (But.of s)
theorem Dbs.dns {vs : List V} {ds : List PyData} (h : Dbs K r H vs ds) : Dns K H vs ds := Dns.same (wo_same r H) h
theorem Dbs.but {vs : List V} {ds : List PyData} (h : Dbs K r H vs ds) (b : But r H H') : Dbs K r H' vs ds := Dns.same (wo_but b) h
theorem Dbs.same {vs : List V} {ds : List PyData} (h : Dbs K r H vs ds) (s : Same H H') : Dbs K r H' vs ds := h.but (But.of s)
theorem tz_wo {t : Addr} {xs : List V} (R : Rng H r) (z : Tz H t xs) : Tz (wo r H) t xs := by
  obtain ⟨o, e, c⟩ := z
  refine ⟨o, ?_, c⟩
  rw [wo_at (fun n => ?_)]
  · exact e
  · obtain ⟨x, y, e2, _⟩ := R
    rw [n, e2] at e
    cases e
theorem Db.tup {t : Addr} {xs : List V} {ds : List PyData} (R : Rng H r) (z : Tz H t xs) (h : Dbs K r H xs ds) : Db K r H (.ref t) (.tuple ds) := Dn.tup (tz_wo R z) h
theorem Db.lst {l : Addr} {xs : List V} {ds : List PyData} (n : l ≠ r) (e : H l = some (.lst xs)) (h : Dbs K r H xs ds) : Db K r H (.ref l) (.list ds) := Dn.lst (by rw [wo_at n]; exact e) h
theorem Db.dic {l : Addr} (n : l ≠ r) (e : H l = some (.dK [])) : Db K r H (.ref l) (.dict []) := Dn.dic (by rw [wo_at n]; exact e)
theorem Db.str (x : Str) : Db K r H (.str x) (.str x) := Dn.str x
theorem Db.int (i : Int) : Db K r H (.int i) (.int i) := Dn.int i
theorem Db.bl (b : Bool) : Db K r H (.bl b) (.bool b) := Dn.bl b
theorem Db.non : Db K r H .non .none := Dn.non
theorem Dbs.nil : Dbs K r H [] [] := Dns.nil
theorem Dbs.cons {v : V} {vs : List V} {d : PyData} {ds : List PyData} (h : Db K r H v d) (t : Dbs K r H vs ds) : Dbs K r H (v :: vs) (d :: ds) := Dns.cons h t
theorem dns_app : ∀ {vs us : List V} {ds es : List PyData}, Dns K H vs ds → Dns K H us es → Dns K H (vs ++ us) (ds ++ es)
  | _, _, _, _, .nil, h => h
  | _, _, _, _, .cons a t, h => .cons a (dns_app t h)
theorem Dbs.app {vs us : List V} {ds es : List PyData} (h : Dbs K r H vs ds) (h2 : Dbs K r H us es) : Dbs K r H (vs ++ us) (ds ++ es) := dns_app h h2
theorem dns_drop : ∀ {vs : List V} {ds : List PyData} (n : Nat), Dns K H vs ds → Dns K H (vs.drop n) (ds.drop n)
  | _, _, 0, h => h
  | _, _, n + 1, .nil => .nil
  | _, _, n + 1, .cons a t => dns_drop n t
theorem dns_take : ∀ {vs : List V} {ds : List PyData} (n : Nat), Dns K H vs ds → Dns K H (vs.take n) (ds.take n)
  | _, _, 0, _ => .nil
  | _, _, n + 1, .nil => .nil
  | _, _, n + 1, .cons a t => .cons a (dns_take n t)
theorem Dbs.drop {vs : List V} {ds : List PyData} (n : Nat) (h : Dbs K r H vs ds) : Dbs K r H (vs.drop n) (ds.drop n) := dns_drop n h
theorem Dbs.take {vs : List V} {ds : List PyData} (n : Nat) (h : Dbs K r H vs ds) : Dbs K r H (vs.take n) (ds.take n) := dns_take n h
theorem dns_rev : ∀ {vs : List V} {ds : List PyData}, Dns K H vs ds → Dns K H vs.reverse ds.reverse
  | _, _, .nil => .nil
  | _, _, .cons a t => by
    rw [List.reverse_cons, List.reverse_cons]
    exact dns_app (dns_rev t) (.cons a .nil)
theorem Dbs.rev {vs : List V} {ds : List PyData} (h : Dbs K r H vs ds) : Dbs K r H vs.reverse ds.reverse := dns_rev h
theorem dns_mem : ∀ {vs : List V} {ds : List PyData} {v : V}, Dns K H vs ds → v ∈ vs → ∃ d, d ∈ ds ∧ Dn K H v d
  | _, _, _, .nil, h => nomatch h
  | _, _, v, .cons (d := d) a t, h => by
    rcases List.mem_cons.mp h with rfl | h
    · exact ⟨d, List.mem_cons_self, a⟩
    · obtain ⟨e, m, z⟩ := dns_mem t h
      exact ⟨e, List.mem_cons_of_mem _ m, z⟩
theorem Dbs.mem {vs : List V} {ds : List PyData} {v : V} (h : Dbs K r H vs ds) (m : v ∈ vs) : ∃ d, d ∈ ds ∧ Db K r H v d := dns_mem h m
theorem Dbs.len {vs : List V} {ds : List PyData} (h : Dbs K r H vs ds) : vs.length = ds.length := Dns.len h.dns
theorem Dbs.get {vs : List V} {ds : List PyData} (h : Dbs K r H vs ds) {i : Nat} {v : V} (e : vs[i]? = some v) : ∃ d, ds[i]? = some d ∧ Db K r H v d := Dns.get (show Dns K (wo r H) vs ds from h) e
theorem dbs_strs (xs : List Str) : Dbs K r H (xs.map V.str) (xs.map PyData.str) := by
  induction xs with
  | nil => exact .nil
  | cons x xs ih => exact .cons (.str x) ih
theorem upd_new {l : Addr} {o : HO} (e : upd H l o = H') (n : H l = none) : Same H H' ∧ H' l = some o := by
  rw [← e]
  exact ⟨same_upd n, upd_same⟩
end
theorem _root_.Xt.Tz.but {H H' : Hp} {a r : Addr} {xs : List V} (h : Tz H a xs) (R : Rng H r) (b : But r H H') : Tz H' a xs := by
  obtain ⟨o, e, c⟩ := h
  refine ⟨o, b a _ (fun z => ?_) e, c⟩
  obtain ⟨x, y, e2, _⟩ := R
  rw [z, e2] at e
  cases e
/-! ### how large they are -/
structure Bd (n W : Nat) (d : PyData) : Prop where
  sh : d.showable = true
  lf : d.leavesShort 40 = true
  dp : d.depth ≤ n
  wt : d.weight ≤ W
  sm : sml d = true
theorem Bd.mono {n W n' W' : Nat} {d : PyData} (h : Bd n W d) (a : n ≤ n') (b : W ≤ W') : Bd n' W' d := ⟨h.sh, h.lf, Nat.le_trans h.dp a, Nat.le_trans h.wt b, h.sm⟩
def Fits (d : PyData) : Prop := d.showable = true ∧ d.depth ≤ 60 ∧ d.shown.length ≤ sizeLine
theorem Bd.fits {n W : Nat} {d : PyData} (h : Bd n W d) (a : n ≤ 60) (b : W ≤ 300000) : Fits d := by
  refine ⟨h.sh, Nat.le_trans h.dp a, ?_⟩
  have l := PyData.shown_le 40 (by decide) d h.lf
  have w := h.wt
  have m : (40 + 2) * d.weight ≤ 42 * 300000 := Nat.mul_le_mul (by decide) (by omega)
  rw [sizeLine_eq]
  omega
theorem bds {n W : Nat} : ∀ {ds : List PyData}, (∀ d ∈ ds, Bd n W d) → PyData.showableAll ds = true ∧ PyData.leavesShortAll 40 ds = true ∧ PyData.depthAll ds ≤ n ∧ PyData.weightAll ds ≤ ds.length * (W + 1) ∧ smls ds = true
  | [], _ => ⟨rfl, rfl, Nat.zero_le _, Nat.zero_le _, rfl⟩
  | d :: ds, h => by
    obtain ⟨a1, a2, a3, a4, a5⟩ := bds (ds := ds) fun e he => h e (List.mem_cons_of_mem _ he)
    have g := h d List.mem_cons_self
    refine ⟨?_, ?_, ?_, ?_, ?_⟩
    · show (d.showable && PyData.showableAll ds) = true
      rw [g.sh, a1]
      rfl
    · show (d.leavesShort 40 && PyData.leavesShortAll 40 ds) = true
      rw [g.lf, a2]
      rfl
    · show max d.depth (PyData.depthAll ds) ≤ n
      have := g.dp
      omega
    · show d.weight + 1 + PyData.weightAll ds ≤ (ds.length + 1) * (W + 1)
      have := g.wt
      rw [Nat.add_mul, Nat.one_mul]
      omega
    · show (sml d && smls ds) = true
      rw [g.sm, a5]
      rfl
theorem Bd.tup {n W L : Nat} {ds : List PyData} (h : ∀ d ∈ ds, Bd n W d) (l : ds.length ≤ L) (L14 : L ≤ 660) : Bd (n + 1) (L * (W + 1)) (.tuple ds) := by
  obtain ⟨a1, a2, a3, a4, a5⟩ := bds h
  refine ⟨a1, a2, Nat.succ_le_succ a3, Nat.le_trans a4 (Nat.mul_le_mul_right _ l), ?_⟩
  show (decide (ds.length ≤ 660) && smls ds) = true
  rw [decide_eq_true (by omega), a5]
  rfl
theorem Bd.lst {n W L : Nat} {ds : List PyData} (h : ∀ d ∈ ds, Bd n W d) (l : ds.length ≤ L) (L14 : L ≤ 660) : Bd (n + 1) (L * (W + 1)) (.list ds) := by
  obtain ⟨a1, a2, a3, a4, a5⟩ := bds h
  refine ⟨a1, a2, Nat.succ_le_succ a3, Nat.le_trans a4 (Nat.mul_le_mul_right _ l), ?_⟩
  show (decide (ds.length ≤ 660) && smls ds) = true
  rw [decide_eq_true (by omega), a5]
  rfl
/-- a part: not deep, not large -/
abbrev A0 (d : PyData) : Prop := Bd 1 120 d
theorem a0_txt {x : Str} (h : (decide (x.length ≤ 20) && x.cps.toList.all fun c => decide (c < 16 ^ 8)) = true := by decide +kernel) : A0 (.str x) := by
  rw [Bool.and_eq_true, decide_eq_true_eq] at h
  refine ⟨rfl, h.2, Nat.zero_le _, ?_, decide_eq_true (Nat.le_trans h.1 (by decide))⟩
  show x.cps.size ≤ 120
  have : x.cps.size ≤ 20 := h.1
  omega
theorem a0_nm {x : Str} (h : Nm x) : A0 (.str x) := a0_txt (by
  rw [Bool.and_eq_true, decide_eq_true_eq]
  refine ⟨by have := h.2.1; omega, List.all_eq_true.mpr fun c hc => ?_⟩
  have z : ∀ d ∈ LET.cps.toList, d < 16 ^ 8 := by decide +kernel
  exact decide_eq_true (z c (h.2.2 c hc)))
theorem a0_int {i : Int} (h : (decide ((PyData.shown (.int i)).length ≤ 40) && decide (i.natAbs.log2 < 110)) = true := by decide +kernel) : A0 (.int i) := by
  rw [Bool.and_eq_true, decide_eq_true_eq, decide_eq_true_eq] at h
  refine ⟨?_, decide_eq_true h.1, Nat.zero_le _, ?_, rfl⟩
  · show decide (i.natAbs.log2 < 1920) = true
    exact decide_eq_true (by omega)
  · show (if (i == 0) = true then 0 else i.natAbs.log2 + 1) ≤ 120
    split <;> omega
theorem a0_nat {n : Nat} (h : n ≤ 100) : A0 (.int (n : Int)) := by
  have z : ∀ m : Fin 101, (decide ((PyData.shown (.int ((m.val : Nat) : Int))).length ≤ 40) && decide (((m.val : Nat) : Int).natAbs.log2 < 110)) = true := by decide +kernel
  exact a0_int (z ⟨n, by omega⟩)
theorem a0_bl {b : Bool} : A0 (.bool b) := ⟨rfl, rfl, Nat.zero_le _, Nat.zero_le _, rfl⟩
theorem a0_non : A0 .none := ⟨rfl, rfl, Nat.zero_le _, Nat.zero_le _, rfl⟩
theorem a0_dic : A0 (.dict []) := ⟨rfl, rfl, by decide, Nat.zero_le _, rfl⟩
/-- a part that, if it is a tuple, has few and small parts -/
def PT (m : Nat) (p : PyData) : Prop := ∀ qs, p = .tuple qs → qs.length ≤ m ∧ ∀ q ∈ qs, A0 q
end My

namespace My
open PySem PySem.Spec PyProof.Rows L2 Gy Xl Xs Xt
theorem bd_txt {x : Str} {n : Nat} (h : x.length ≤ n) (n640 : n ≤ 640) (c : ∀ c ∈ TL.tl x, c < 0x110000) : Bd 0 n (.str x) := by
  refine ⟨rfl, ?_, Nat.zero_le _, h, decide_eq_true (by omega)⟩
  show (x.cps.toList.all fun c => decide (c < 16 ^ 8)) = true
  exact List.all_eq_true.mpr fun d hd => decide_eq_true (Nat.lt_trans (c d hd) (by decide))
theorem bd_nat {i : Nat} (h : i ≤ 1000) : Bd 0 12 (.int (i : Int)) := by
  have l : i.log2 < 11 := by
    by_cases z : i = 0
    · rw [z]
      decide
    · exact (Nat.log2_lt z).mpr (by show i < 2048; omega)
  refine ⟨?_, ?_, Nat.zero_le _, ?_, rfl⟩
  · show decide (i.log2 < 1920) = true
    exact decide_eq_true (by omega)
  · show decide ((numS i).length ≤ 40) = true
    exact decide_eq_true (Nat.le_trans (numS_len (k := 4) (by decide) (by show i < 10000; omega)) (by decide))
  · show (if ((i : Int) == 0) = true then 0 else i.log2 + 1) ≤ 12
    split <;> omega
/-- signs of ASCII alone -/
def Okt (x : Str) : Prop := ∀ c ∈ TL.tl x, c < 128
theorem bd_ok {x : Str} {n : Nat} (h : x.length ≤ n) (n640 : n ≤ 640) (c : Okt x) : Bd 0 n (.str x) := bd_txt h n640 fun d hd => Nat.lt_trans (c d hd) (by decide)
theorem let_lt : ∀ c ∈ LET.cps.toList, c < 128 := by decide +kernel
theorem wsg_lt : ∀ c ∈ WSG.cps.toList, c < 128 := by decide +kernel
theorem num_lt {i : Nat} : Okt (numS i) := by
  unfold Okt numS
  rw [TL.tl_num]
  exact fun c hc => Nat.lt_of_le_of_lt (TL.numL_digits i c hc).2 (by decide)
theorem join_all {p : Nat → Prop} {y : Str} (hy : ∀ c ∈ TL.tl y, p c) {xs : List Str} (h : ∀ x ∈ xs, ∀ c ∈ TL.tl x, p c) : ∀ c ∈ TL.tl (Txt.join y xs), p c := by
  rw [TL.join_eq]
  induction xs with
  | nil => exact fun c z => nomatch z
  | cons x xs ih =>
    cases xs with
    | nil => exact h x List.mem_cons_self
    | cons z r =>
      intro c hc
      have hc' : c ∈ TL.tl (x ++ y ++ Str.join y (z :: r)) := hc
      rw [TL.tl_append, TL.tl_append, List.mem_append, List.mem_append] at hc'
      rcases hc' with (q | q) | q
      · exact h x List.mem_cons_self c q
      · exact hy c q
      · exact ih (fun w hw => h w (List.mem_cons_of_mem _ hw)) c q
theorem cut_take (xs : List V) (n : Nat) : cutV xs none (some (n : Int)) = xs.take n := by
  unfold cutV
  rw [HT.sIx_none, HT.sIx_nat, List.drop_zero, Nat.sub_zero]
  by_cases h : n ≤ xs.length
  · rw [Nat.min_eq_left h]
  · rw [Nat.min_eq_right (by omega), List.take_of_length_le (Nat.le_refl _), List.take_of_length_le (by omega)]
theorem cut_drop (xs : List V) (n : Nat) : cutV xs (some (n : Int)) none = xs.drop n := by
  unfold cutV
  rw [HT.sIx_none, HT.sIx_nat]
  by_cases h : n ≤ xs.length
  · rw [Nat.min_eq_left h, List.take_of_length_le (by rw [List.length_drop]; exact Nat.le_refl _)]
  · rw [Nat.min_eq_right (by omega), Nat.sub_self, List.take_zero, List.drop_eq_nil_of_le (by omega)]
theorem cut_dropI (xs : List V) (n : Nat) : cutV xs (some ((n : Int) + 1)) none = xs.drop (n + 1) := cut_drop xs (n + 1)
theorem ixN_nat {n j : Nat} (hj : j < n) : ixN n (j : Int) = some j := by
  unfold ixN
  rw [if_pos (by omega), if_pos (by omega), Int.toNat_natCast]
theorem Okt.app {x y : Str} (a : Okt x) (b : Okt y) : Okt (x ++ y) := fun c hc => by
  rw [TL.tl_append, List.mem_append] at hc
  rcases hc with hc | hc
  · exact a c hc
  · exact b c hc
theorem Okt.cut {x : Str} (a : Okt x) (lo hi : Option Int) : Okt (cutS x lo hi) := fun c hc => by
  unfold cutS at hc
  exact a c (List.mem_of_mem_drop (List.mem_of_mem_take (show c ∈ (((x.cps.toList.drop _).take _)) from hc)))
theorem cutT_len (x : Str) {i : Int} (h : 0 ≤ i) : (cutS x none (some i)).length ≤ i.toNat ∧ (cutS x none (some i)).length ≤ x.length := by
  refine ⟨?_, cutS_length x _ _⟩
  obtain ⟨n, rfl⟩ := Int.eq_ofNat_of_zero_le h
  rw [cut_some]
  show ((x.cps.toList.take (min n x.length)).toArray).size ≤ n
  rw [List.size_toArray, List.length_take]
  omega
theorem cutF_len (x : Str) {i : Int} (h : 0 ≤ i) : (cutS x (some i) none).length = x.length - i.toNat := by
  obtain ⟨n, rfl⟩ := Int.eq_ofNat_of_zero_le h
  unfold cutS
  rw [HT.sIx_nat, HT.sIx_none]
  show (((x.cps.toList.drop (min n x.length)).take (x.length - min n x.length)).toArray).size = _
  rw [List.size_toArray, List.length_take, List.length_drop, Array.length_toList]
  have : x.cps.size = x.length := rfl
  omega
theorem sign_ok {c : Nat} (h : c < 128) : Okt ⟨#[c]⟩ := fun d hd => by
  have : d = c := List.mem_singleton.mp (show d ∈ [c] from hd)
  rw [this]
  exact h
theorem cutn (xs : List Str) {n : Nat} (h : n ≤ xs.length) : cutV (xs.map V.str) none (some (n : Int)) = (xs.take n).map V.str := by
  unfold cutV
  have e2 : HT.sIx (xs.map V.str).length (xs.map V.str).length (some (n : Int)) = n := by
    rw [HT.sIx_nat, List.length_map]
    omega
  rw [e2, HT.sIx_none, List.drop_zero, Nat.sub_zero, List.map_take]
def rLenS (K : PySem.W.Frag) : List V → Hp → VK → Prop := fun xs H Q => ∃ p ys, xs = [.ref p] ∧ (SqL K H p ys ∨ SqT K H p ys) ∧ Q (.int (ys.length : Int)) H
theorem so_iff {x : Str} : PyData.strOk x = true ↔ ∀ c ∈ x.cps.toList, c < 0x110000 := by
  unfold PyData.strOk
  rw [← Array.all_toList, List.all_eq_true]
  exact ⟨fun h c hc => of_decide_eq_true (h c hc), fun h c hc => decide_eq_true (h c hc)⟩
theorem so_app {x y : Str} (h1 : PyData.strOk x = true) (h2 : PyData.strOk y = true) : PyData.strOk (x ++ y) = true := by
  rw [so_iff] at *
  intro c hc
  have e : (x ++ y).cps.toList = x.cps.toList ++ y.cps.toList := by
    show (x.cps ++ y.cps).toList = _
    rw [Array.toList_append]
  rw [e, List.mem_append] at hc
  rcases hc with hc | hc
  · exact h1 c hc
  · exact h2 c hc
theorem chr_lt (c : Char) : c.toNat < 0x110000 := by
  have h := c.valid
  rcases h with h | h
  · show c.val.toNat < _
    have : c.val.toNat < 0xd800 := h
    omega
  · exact h.2
theorem so_lit (s : String) : PyData.strOk (Str.ofString s) = true := by
  rw [so_iff, Str.ofString_eq_toList]
  intro c hc
  have hc' : c ∈ s.toList.map Char.toNat := hc
  obtain ⟨d, _, rfl⟩ := List.mem_map.mp hc'
  exact chr_lt d
theorem so_join {sep : Str} (hs : PyData.strOk sep = true) : ∀ {ts : List Str}, (∀ t ∈ ts, PyData.strOk t = true) → PyData.strOk (Str.join sep ts) = true
  | [], _ => by
    rw [so_iff]
    intro c hc
    exact nomatch hc
  | [x], h => h x List.mem_cons_self
  | x :: y :: ts, h => by
    show PyData.strOk (x ++ sep ++ Str.join sep (y :: ts)) = true
    exact so_app (so_app (h x List.mem_cons_self) hs) (so_join hs fun t ht => h t (List.mem_cons_of_mem _ ht))
theorem so_char {q c : Nat} (hq : q < 0x110000) (hc : c < 0x110000) : ∀ d ∈ PySem.Builtin.Str.reprChar q c, d < 0x110000 := by
  have hx : ∀ w : Nat, ∀ d ∈ List.replicate (w - ((Nat.toDigits 16 c).map Char.toNat).length) 48 ++ (Nat.toDigits 16 c).map Char.toNat, d < 0x110000 := by
    intro w d hd
    rcases List.mem_append.mp hd with hd | hd
    · rw [(List.mem_replicate.mp hd).2]
      decide
    · obtain ⟨e, _, rfl⟩ := List.mem_map.mp hd
      exact chr_lt e
  intro d hd
  unfold PySem.Builtin.Str.reprChar at hd
  dsimp only at hd
  split at hd
  · simp only [List.mem_cons, List.not_mem_nil, or_false] at hd
    rcases hd with rfl | rfl
    · decide
    · exact hc
  split at hd
  · simp only [List.mem_cons, List.not_mem_nil, or_false] at hd
    rcases hd with rfl | rfl <;> decide
  split at hd
  · simp only [List.mem_cons, List.not_mem_nil, or_false] at hd
    rcases hd with rfl | rfl <;> decide
  split at hd
  · simp only [List.mem_cons, List.not_mem_nil, or_false] at hd
    rcases hd with rfl | rfl <;> decide
  split at hd
  · rw [List.mem_singleton.mp hd]
    exact hc
  split at hd
  · rcases List.mem_append.mp hd with hd | hd
    · simp only [List.mem_cons, List.not_mem_nil, or_false] at hd
      rcases hd with rfl | rfl <;> decide
    · exact hx 2 d hd
  split at hd
  · rcases List.mem_append.mp hd with hd | hd
    · simp only [List.mem_cons, List.not_mem_nil, or_false] at hd
      rcases hd with rfl | rfl <;> decide
    · exact hx 4 d hd
  · rcases List.mem_append.mp hd with hd | hd
    · simp only [List.mem_cons, List.not_mem_nil, or_false] at hd
      rcases hd with rfl | rfl <;> decide
    · exact hx 8 d hd
theorem so_fold {q : Nat} (hq : q < 0x110000) : ∀ (l : List Nat) (a : Array Nat), (∀ c ∈ l, c < 0x110000) → (∀ c ∈ a.toList, c < 0x110000) → ∀ c ∈ (l.foldl (fun out c => out ++ (PySem.Builtin.Str.reprChar q c).toArray) a).toList, c < 0x110000
  | [], a, _, ha => ha
  | x :: l, a, hl, ha => by
    rw [List.foldl_cons]
    refine so_fold hq l _ (fun c hc => hl c (List.mem_cons_of_mem _ hc)) fun c hc => ?_
    rw [Array.toList_append, List.mem_append] at hc
    rcases hc with hc | hc
    · exact ha c hc
    · exact so_char hq (hl x List.mem_cons_self) c hc
theorem so_repr {x : Str} (h : PyData.strOk x = true) : PyData.strOk (reprText x) = true := by
  have hq : reprQuote x < 0x110000 := by
    unfold reprQuote
    split <;> decide
  rw [so_iff] at *
  intro c hc
  unfold reprText at hc
  rw [Array.toList_push, List.mem_append] at hc
  rcases hc with hc | hc
  · rw [← Array.foldl_toList] at hc
    exact so_fold hq _ _ h (fun d hd => by rw [List.mem_singleton.mp hd]; exact hq) c hc
  · rw [List.mem_singleton.mp hc]
    exact hq
mutual
/-- texts of signs only, dicts empty -/
def oks : PyData → Bool
  | .str x => PyData.strOk x
  | .int _ => true
  | .list ds => okss ds
  | .tuple ds => okss ds
  | .dict kvs => kvs.isEmpty
  | .none => true
  | .bool _ => true
def okss : List PyData → Bool
  | [] => true
  | d :: ds => oks d && okss ds
end
mutual
theorem oks.so : ∀ {d : PyData}, oks d = true → PyData.strOk d.shown = true
  | .str x, h => by
    simp only [PyData.shown]
    exact so_repr h
  | .int i, h => by
    simp only [PyData.shown]
    exact so_lit _
  | .list ds, h => by
    simp only [PyData.shown]
    rw [listText_eq_join]
    exact so_app (so_app (so_lit _) (so_join (so_lit _) (okss.so h))) (so_lit _)
  | .tuple ds, h => by
    simp only [PyData.shown]
    unfold tupleText
    exact so_app (so_app (so_lit _) (so_join (so_lit _) (okss.so h))) (so_lit _)
  | .dict kvs, h => by
    have h2 : kvs = [] := List.isEmpty_iff.mp h
    subst h2
    decide +kernel
  | .none, _ => by decide +kernel
  | .bool b, _ => by cases b <;> decide +kernel
theorem okss.so : ∀ {ds : List PyData}, okss ds = true → ∀ t ∈ PyData.shownAll ds, PyData.strOk t = true
  | [], _ => fun t ht => by simp only [PyData.shownAll] at ht; cases ht
  | d :: ds, h => by
    have h2 : oks d = true ∧ okss ds = true := by simpa only [okss, Bool.and_eq_true] using h
    intro t ht
    simp only [PyData.shownAll] at ht
    rcases List.mem_cons.mp ht with rfl | ht
    · exact oks.so h2.1
    · exact okss.so h2.2 t ht
end
theorem okss_of : ∀ {ds : List PyData}, (∀ d ∈ ds, oks d = true) → okss ds = true
  | [], _ => rfl
  | d :: ds, h => by
    show (oks d && okss ds) = true
    rw [h d List.mem_cons_self, okss_of fun e he => h e (List.mem_cons_of_mem _ he)]
    rfl
theorem oks_okt {x : Str} (h : Okt x) : oks (.str x) = true := by
  show PyData.strOk x = true
  rw [so_iff]
  exact fun c hc => Nat.lt_trans (h c hc) (by decide)
end My

namespace My
open PySem PySem.Spec PyProof.Rows L2 Gy Xl Xs Xt
theorem erase_perm {α : Type} : ∀ {xs : List α} {k : Nat} {y : α}, xs[k]? = some y → (y :: xs.eraseIdx k).Perm xs
  | [], k, y, h => by simp at h
  | x :: xs, 0, y, h => by
    simp at h
    subst h
    exact List.Perm.refl _
  | x :: xs, k + 1, y, h => by
    simp only [List.getElem?_cons_succ] at h
    rw [List.eraseIdx_cons_succ]
    exact (List.Perm.swap x y _).trans (List.Perm.cons x (erase_perm h))
theorem seq_ix {k n : Nat} (h : k < n) : seqIndex? (k : Int) n = some k := by
  unfold seqIndex?
  dsimp only
  rw [if_neg (show ¬ (k : Int) < 0 by omega), if_pos (by rw [Bool.and_eq_true, decide_eq_true_eq, decide_eq_true_eq]; omega)]
  rfl
theorem map_erase (xs : List Str) (k : Nat) : (xs.map V.str).eraseIdx k = (xs.eraseIdx k).map V.str := by
  induction xs generalizing k with
  | nil => rfl
  | cons x xs ih =>
    cases k with
    | zero => rfl
    | succ k =>
      show V.str x :: (xs.map V.str).eraseIdx k = V.str x :: (xs.eraseIdx k).map V.str
      rw [ih]
section
variable {P : Program} {w : World} {K : PySem.W.Frag} {mg : Str → Option Value} {base : Heap} {H : Hp}
def spShuf : Sp := fun vs H Q _ => ∃ (r la : Addr) (xs : List Str), vs = [.ref r, .ref la] ∧ Rng H r ∧ la ≠ r ∧ H la = some (.lst (xs.map V.str)) ∧ xs.length ≤ 20 ∧
  ∀ (H' : Hp) (L : Addr) (ys : List Str), But r H H' → Rng H' r → H L = none → H' L = some (.lst (ys.map V.str)) → ys.Perm xs → Q (.ref L) H'
theorem ok_shuf {f : Addr} {fd : FuncData} (F : Fun K "_law_shuffled" "_law_shuffled" s_law_shuffled f fd) (Y : Bn mg) (G_law_draw : Fk P w K mg base CX0 1 "_law_draw" ["_law_rng_here", "_law_many"] spDraw) : FnOk P w K mg base CX0 2 f fd ["_law_rng_here", "_law_some"] spShuf := by
  refine F.ok sc_law_shuffled (fun vs H Q E h => ?_) (fun cdv A outer s H vs Q E hr h => ?_)
  · obtain ⟨r, la, xs, rfl, _⟩ := h
    rfl
  · obtain ⟨r, la, xs, rfl, R, nl, hl, l20, q⟩ := h
    refine ⟨_, (pss_cons (ps_set (i := 2) sc_law_shuffled.nd rfl (.inr rfl) (pe_callTy call_list_of (by rfl) Y.list (by decide +kernel) (pa_cons (pv 1) pa_nil)))
 (pss_one (ps_ret (pe_lc (own := [("_law_k", 3)]) (g := gName 3) (tt := tYes) rfl sc_law_shuffled.nd (pi_range1 (by rfl) Y.range (pa_cons (pe_callB call_len_seq (by rfl) Y.len PySem.boot_len (pa_cons (pv 1) pa_nil)) pa_nil)) (blkOk_by (N := ["_law_rng_here", "_law_some", "_law_rest", "_law_k"]) (sc := defScope s_law_shuffled) (by decide +kernel)) (fun _ _ _ _ _ => (pg_name (i := 3) sc_law_shuffled.nd rfl (Or.inl rfl))) (fun _ _ _ _ _ => pts_nil) (fun _ _ _ _ _ => (show PE _ _ (tBM K "list" rPopAt (tVar 2) _) from pe_bm PySem.F.plainAttrs_list PySem.F.slot_list_pop PySem.F.type_list_pop mt_popAt (pv 2) (pa_cons (pe_callF G_law_draw (hr.mono (by decide)) (by rfl) pass0 (pa_cons (pv 0) (pa_cons (pe_callB (show CallR _ (.builtin "len") (rLenS K) from call_len_seq) (by rfl) Y.len PySem.boot_len (pa_cons (pv 2) pa_nil)) pa_nil))) pa_nil))))))), ?_⟩
    refine ⟨_, rfl, la, _, rfl, .inl (SqL.of hl), fun l2 n2 => ?_⟩
    have ne2 := R.ne n2
    generalize hg : upd _ l2 _ = H2
    obtain ⟨s2, g2⟩ := upd_new hg n2
    clear hg
    have R2 := R.same s2
    refine ⟨_, rfl, la, _, rfl, .inl (SqL.of (s2 _ _ hl)), _, rfl, ?_, ?_, fun D nD => ?_⟩
    · rw [List.length_map]
      omega
    · rw [List.length_map]
      omega
    have neD := R2.ne nD
    have neD2 : D ≠ l2 := fun z => by rw [z, g2] at nD; cases nD
    have nD0 : H D = none := by
      cases z : H D with
      | none => rfl
      | some o => rw [s2 _ _ z] at nD; cases nD
    rw [List.length_map]
    refine lc_it (walk_range (lo := 0) (n := ((xs.length : Int) - 0).toNat)) (fun i H' => But r H H' ∧ Rng H' r ∧ ∃ out rest : List Str, H' D = some (.lst (out.map V.str)) ∧ H' l2 = some (.lst (rest.map V.str)) ∧ (out ++ rest).Perm xs ∧ out.length = i)
      ⟨(But.of s2).trans (But.of (same_upd nD)), R2.upd nD, [], xs, upd_same, (by rw [upd_ne neD2.symm]; exact g2), List.Perm.refl _, rfl⟩ (fun _ _ _ _ => trivial) ?_ ?_
    · rintro i y H3 H4 hi ⟨b3, R3, out, rest, hD, h2, pm, ol⟩ ⟨rfl, rfl⟩
      have pl := pm.length_eq
      rw [List.length_append] at pl
      have rl : 0 < rest.length := by omega
      refine ⟨rfl, ?_⟩
      dsimp only [tYes]
      refine iteT ?_
      refine ⟨_, rfl, .inl ⟨rfl, _, SqL.of h2⟩, _, rfl, _, rfl, l2, _, rfl, .inl (SqL.of h2), ?_⟩
      rw [List.length_map]
      refine ⟨r, _, rfl, R3, by omega, by omega, fun H5 e b5 R5 e0 e1 => ?_⟩
      obtain ⟨k, rfl⟩ := Int.eq_ofNat_of_zero_le e0
      have kl : k < rest.length := by omega
      have hD5 := b5 _ _ neD hD
      have h25 := b5 _ _ ne2 h2
      refine ⟨l2, _, _, k, .str rest[k], rfl, rfl, h25, by omega, by omega, seq_ix (by rw [List.length_map]; exact kl), (by rw [List.getElem?_map, List.getElem?_eq_getElem kl]; rfl), ?_⟩
      rw [map_erase]
      have hD6 : (upd H5 l2 (.lst ((rest.eraseIdx k).map V.str))) D = some (.lst (out.map V.str)) := by
        rw [upd_ne neD2]
        exact hD5
      refine ⟨_, hD6, ?_, ?_, ?_, out ++ [rest[k]], rest.eraseIdx k, ?_, ?_, ?_, ?_⟩
      · rw [List.length_map]
        exact small200 (by omega)
      · exact ((b3.trans b5).upd n2).upd nD0
      · exact (R5.upd2 ne2).upd2 neD
      · rw [upd_same, List.map_append]
        rfl
      · rw [upd_ne neD2.symm, upd_same]
      · rw [List.append_assoc]
        exact (List.Perm.append_left out (erase_perm (List.getElem?_eq_getElem kl))).trans pm
      · rw [List.length_append, ol]
        rfl
    · rintro H3 ⟨b3, R3, out, rest, hD, h2, pm, ol⟩
      have pl := pm.length_eq
      rw [List.length_append] at pl
      have r0 : rest = [] := List.eq_nil_of_length_eq_zero (by omega)
      subst r0
      rw [List.append_nil] at pm
      exact q _ D out b3 R3 nD0 hD pm
end
end My

namespace My
open PySem PySem.Spec PyProof.Rows L2 Gy Xl Xs Xt
theorem at_inL {H : Hp} {a : Addr} {xs : List V} {d n : Int} (h : H a = some (.lst xs)) (l : (xs.length : Int) = n) (h0 : 0 ≤ d) (h1 : d < n) : ∃ v, atI xs d = some v ∧ v ∈ xs := at_in h0 (by rw [l]; exact h1)
def odd16 : List PyData := [.none, .bool true, .bool false, .int 0, .int 1, .int (-7), .str "", .str "A", .str "a1", .str "a b", .str "abcdefghi", .str "a\n", .str " a", .list [], .tuple [], .dict [], .list [.str "a"], .tuple [.str "a"], .str "z-"]
/-- what odd values are -/
structure Od (d : PyData) : Prop where
  bd : A0 d
  st : ∀ x, d = .str x → x.length ≤ 640 ∧ Okt x
  ok : oks d = true
theorem od_a0 {d : PyData} (h : A0 d) (no : ∀ x, d ≠ .str x) (o : oks d = true := by decide +kernel) : Od d := ⟨h, fun x e => absurd e (no x), o⟩
theorem od_str {x : Str} (h : (decide (x.length ≤ 20) && (TL.tl x).all fun c => decide (c < 128)) = true) : Od (.str x) := by
  rw [Bool.and_eq_true, decide_eq_true_eq, List.all_eq_true] at h
  have ok : Okt x := fun c hc => of_decide_eq_true (h.2 c hc)
  refine ⟨(bd_ok (n := 20) h.1 (by decide) ok).mono (by decide) (by decide), fun y e => ?_, oks_okt ok⟩
  injection e with e
  subst e
  exact ⟨by omega, ok⟩
theorem one_a0 : ∀ d ∈ ([.str "a"] : List PyData), Bd 0 119 d := fun d hd => by
  rw [List.mem_singleton] at hd
  subst hd
  exact bd_ok (by decide) (by decide) (by unfold Okt; decide +kernel)
theorem odd16_ok : ∀ d ∈ odd16, Od d := by
  intro d hd
  unfold odd16 at hd
  simp only [List.mem_cons, List.not_mem_nil, or_false] at hd
  rcases hd with rfl | rfl | rfl | rfl | rfl | rfl | rfl | rfl | rfl | rfl | rfl | rfl | rfl | rfl | rfl | rfl | rfl | rfl | rfl
  · exact od_a0 a0_non (fun _ z => nomatch z)
  · exact od_a0 a0_bl (fun _ z => nomatch z)
  · exact od_a0 a0_bl (fun _ z => nomatch z)
  · exact od_a0 (a0_nat (n := 0) (by decide)) (fun _ z => nomatch z)
  · exact od_a0 (a0_nat (n := 1) (by decide)) (fun _ z => nomatch z)
  · exact od_a0 (a0_int) (fun _ z => nomatch z)
  · exact od_str (by decide +kernel)
  · exact od_str (by decide +kernel)
  · exact od_str (by decide +kernel)
  · exact od_str (by decide +kernel)
  · exact od_str (by decide +kernel)
  · exact od_str (by decide +kernel)
  · exact od_str (by decide +kernel)
  · exact od_a0 (Bd.lst (n := 0) (W := 119) (L := 1) (fun _ z => nomatch z) (by decide) (by decide)) (fun _ z => nomatch z)
  · exact od_a0 (Bd.tup (n := 0) (W := 119) (L := 1) (fun _ z => nomatch z) (by decide) (by decide)) (fun _ z => nomatch z)
  · exact od_a0 a0_dic (fun _ z => nomatch z)
  · exact od_a0 (Bd.lst (n := 0) (W := 119) (L := 1) one_a0 (by decide) (by decide)) (fun _ z => nomatch z)
  · exact od_a0 (Bd.tup (n := 0) (W := 119) (L := 1) one_a0 (by decide) (by decide)) (fun _ z => nomatch z)
  · exact od_str (by decide +kernel)
section
variable {P : Program} {w : World} {K : PySem.W.Frag} {mg : Str → Option Value} {base : Heap} {H : Hp}
def spOdd (K : PySem.W.Frag) : Sp := fun vs H Q _ => ∃ r : Addr, vs = [.ref r] ∧ Rng H r ∧ ∀ H' v d, But r H H' → Rng H' r → Db K r H' v d → Od d → Q v H'
theorem ok_odd {f : Addr} {fd : FuncData} (F : Fun K "_law_odd" "_law_odd" s_law_odd f fd) (Y : Bn mg) (G_law_draw : Fk P w K mg base CX0 1 "_law_draw" ["_law_rng_here", "_law_many"] spDraw) : FnOk P w K mg base CX0 2 f fd ["_law_rng_here"] (spOdd K) := by
  refine F.ok sc_law_odd (fun vs H Q E h => ?_) (fun cdv A outer s H vs Q E hr h => ?_)
  · obtain ⟨r, rfl, _⟩ := h
    rfl
  · obtain ⟨r, rfl, R, q⟩ := h
    refine ⟨_, (pss_cons (ps_set (i := 1) sc_law_odd.nd rfl (.inl rfl) (pe_lst (pa_cons pe_non (pa_cons pe_bl (pa_cons pe_bl (pa_cons pe_int (pa_cons pe_int (pa_cons (pe_un un_neg pe_int) (pa_cons pe_str (pa_cons pe_str (pa_cons pe_str (pa_cons pe_str (pa_cons pe_str (pa_cons pe_str (pa_cons pe_str (pa_cons (pe_lst pa_nil) (pa_cons (pe_tupZ pa_nil) (pa_cons pe_dnewK pa_nil))))))))))))))))))
 (pss_one (ps_ret (pe_ix ix_list (pe_op op_cat (pv 1) (pe_lst (pa_cons (pe_lst (pa_cons pe_str pa_nil)) (pa_cons (pe_tupZ (pa_cons pe_str pa_nil)) (pa_cons pe_str pa_nil))))) (pe_callF G_law_draw (hr.mono (by decide)) (by rfl) pass0 (pa_cons (pv 0) (pa_cons pe_int pa_nil))) (fun _ _ => rfl))))), ?_⟩
    have D : Dbs K r H [] [] := .nil
    have b0 : But r H H := But.of (Same.refl _)
    have D := D.app (.cons (.non) .nil)
    have D := D.app (.cons (.bl true) .nil)
    have D := D.app (.cons (.bl false) .nil)
    have D := D.app (.cons (.int 0) .nil)
    have D := D.app (.cons (.int 1) .nil)
    refine ⟨_, rfl, ?_⟩
    have D := D.app (.cons (.int (-7)) .nil)
    have D := D.app (.cons (.str "") .nil)
    have D := D.app (.cons (.str "A") .nil)
    have D := D.app (.cons (.str "a1") .nil)
    have D := D.app (.cons (.str "a b") .nil)
    have D := D.app (.cons (.str "abcdefghi") .nil)
    have D := D.app (.cons (.str "a\n") .nil)
    have D := D.app (.cons (.str " a") .nil)
    refine ⟨(by show 0 ≤ sizeLine; decide), fun l1 n1 => ?_⟩
    have ne1 := R.ne n1
    generalize hg : upd _ l1 _ = H1
    obtain ⟨s1, g1⟩ := upd_new hg n1
    clear hg
    have D := D.same s1
    have R := R.same s1
    have b0 := b0.trans (But.of s1)
    have D := D.app (.cons (.lst ne1 g1 (.nil)) .nil)
    refine ⟨(by show 0 ≤ sizeLine; decide), fun t2 o2 n2 s2 z2 => ?_⟩
    have D := D.same s2
    have R := R.same s2
    have b0 := b0.trans (But.of s2)
    generalize upd _ t2 o2 = H2 at D R b0 z2  ⊢
    have D := D.app (.cons (.tup R z2 (.nil)) .nil)
    refine fun l3 n3 => ?_
    have ne3 := R.ne n3
    generalize hg : upd _ l3 _ = H3
    obtain ⟨s3, g3⟩ := upd_new hg n3
    clear hg
    have D := D.same s3
    have R := R.same s3
    have b0 := b0.trans (But.of s3)
    have D := D.app (.cons (.dic ne3 g3) .nil)
    refine ⟨(by show 16 ≤ sizeLine; decide), fun l4 n4 => ?_⟩
    have ne4 := R.ne n4
    generalize hg : upd _ l4 _ = H4
    obtain ⟨s4, g4⟩ := upd_new hg n4
    clear hg
    have D := D.same s4
    have R := R.same s4
    have b0 := b0.trans (But.of s4)
    have h1 := g4
    refine ⟨_, rfl, ?_⟩
    refine ⟨(by show 1 ≤ sizeLine; decide), fun l5 n5 => ?_⟩
    have ne5 := R.ne n5
    generalize hg : upd _ l5 _ = H5
    obtain ⟨s5, g5⟩ := upd_new hg n5
    clear hg
    have D := D.same s5
    have R := R.same s5
    have b0 := b0.trans (But.of s5)
    have h1 := s5 _ _ h1
    have D := D.app (.cons (.lst ne5 g5 (.cons (.str _) (.nil))) .nil)
    refine ⟨(by show 1 ≤ sizeLine; decide), fun t6 o6 n6 s6 z6 => ?_⟩
    have D := D.same s6
    have R := R.same s6
    have b0 := b0.trans (But.of s6)
    have h1 := s6 _ _ h1
    generalize upd _ t6 o6 = H6 at D R b0 z6 h1 ⊢
    have D := D.app (.cons (.tup R z6 (.cons (.str _) (.nil))) .nil)
    have D := D.app (.cons (.str "z-") .nil)
    refine ⟨(by show 3 ≤ sizeLine; decide), fun l7 n7 => ?_⟩
    have ne7 := R.ne n7
    generalize hg : upd _ l7 _ = H7
    obtain ⟨s7, g7⟩ := upd_new hg n7
    clear hg
    have D := D.same s7
    have R := R.same s7
    have b0 := b0.trans (But.of s7)
    have h1 := s7 _ _ h1
    have h2 := g7
    refine ⟨l4, l7, _, _, rfl, rfl, h1, h2, (by show 19 ≤ sizeLine; decide), fun a3 n8 => ?_⟩
    have ne3 := R.ne n8
    generalize hg : upd _ a3 _ = H8
    obtain ⟨s8, h3⟩ := upd_new hg n8
    clear hg h1 h2
    have D := D.same s8
    have R := R.same s8
    have b0 := b0.trans (But.of s8)
    simp only [List.cons_append, List.nil_append] at D h3
    refine ⟨_, rfl, r, 19, rfl, R, by decide, by decide, fun H' e b' R' e0 e1 => ?_⟩
    have h3 := b' _ _ ne3 h3
    obtain ⟨v, hv, mv⟩ := at_inL h3 rfl e0 e1
    refine ⟨a3, _, e, v, rfl, rfl, SqL.of h3, hv, ?_⟩
    obtain ⟨d, md, dnd⟩ := (D.but b').mem mv
    exact q H' v d (b0.trans b') R' dnd (odd16_ok d md)
end
end My

namespace My
open PySem PySem.Spec PyProof.Rows L2 Gy Xl Xs Xt
/-! ### events, over data -/
def evSz (k : Str) : Option Nat := if k = "write" then some 3 else if k = "ask" then some 3 else if k = "deliver" then some 3 else if k = "add" then some 3 else if k = "remove" then some 2 else none
def evF (k : Str) : Option V := (evSz k).map fun n => .int (n : Int)
def hasForm : PyData → Bool
  | .tuple (.str k :: ds) => decide (evSz k = some (ds.length + 1))
  | _ => false
def wr2 : List PyData → Bool
  | [w, x] => isHost w && isWord x
  | _ => false
def isEv : PyData → Bool
  | .tuple (.str k :: ds) => decide (evSz k = some (ds.length + 1)) && (if k = "ask" then isRel (.tuple ds) else if k = "write" then wr2 ds else ds.all isHost)
  | _ => false
theorem isEv_t (k : Str) (ds : List PyData) : isEv (.tuple (.str k :: ds)) = (decide (evSz k = some (ds.length + 1)) && (if k = "ask" then isRel (.tuple ds) else if k = "write" then wr2 ds else ds.all isHost)) := rfl
inductive EvC : PyData → Prop
  | ask (xs : List Str) (c : Nat) (l3 : 3 ≤ xs.length) (cl : c + 2 ≤ xs.length) (ah : (xs.map PyData.str).all isHost = true) : EvC (.tuple [.str "ask", .tuple (xs.map PyData.str), .int (c : Int)])
  | flat (k : Str) (ps : List Str) (hk : k ≠ "ask") (l : ps.length ≤ 2) (h : ∀ p ∈ k :: ps, 32 ∉ TL.tl p ∧ p.length ≤ 12 ∧ Okt p) : EvC (.tuple (.str k :: ps.map PyData.str))
theorem host_part {x : Str} (h : isHost (.str x) = true) : 32 ∉ TL.tl x ∧ x.length ≤ 12 ∧ Okt x :=
  ⟨fun z => let_no.1 ((host_in h).2.2 _ z), by have := (host_in h).2.1; omega, fun c hc => let_lt c ((host_in h).2.2 c hc)⟩
theorem word_part {x : Str} (h : isWord (.str x) = true) : 32 ∉ TL.tl x ∧ x.length ≤ 12 ∧ Okt x :=
  ⟨fun z => wsg_no.1 ((word_in h).2.2 _ z), (word_in h).2.1, fun c hc => wsg_lt c ((word_in h).2.2 c hc)⟩
theorem kw_part {k : Str} (h : (evSz k).isSome = true) : 32 ∉ TL.tl k ∧ k.length ≤ 12 ∧ Okt k := by
  unfold evSz at h
  unfold Okt
  split at h
  · next e => subst e; decide +kernel
  split at h
  · next e => subst e; decide +kernel
  split at h
  · next e => subst e; decide +kernel
  split at h
  · next e => subst e; decide +kernel
  split at h
  · next e => subst e; decide +kernel
  · cases h
theorem evSz_le {k : Str} {n : Nat} (h : evSz k = some n) : n ≤ 3 := by
  unfold evSz at h
  repeat' split at h
  all_goals first | (injection h with h; omega) | cases h
theorem ev_cases {d : PyData} (h : isEv d = true) : EvC d := by
  match d, h with
  | .tuple (.str k :: ds), h =>
    rw [isEv_t, Bool.and_eq_true, decide_eq_true_eq] at h
    obtain ⟨hs, h⟩ := h
    have hk := kw_part (k := k) (by rw [hs]; rfl)
    have hl := evSz_le hs
    by_cases c1 : k = "ask"
    · rw [if_pos c1] at h
      subst c1
      obtain ⟨xs, c, e, l3, nd, cl, ah⟩ := rel_parts h
      unfold reld at e
      injection e with e
      subst e
      exact .ask xs c l3 cl ah
    · rw [if_neg c1] at h
      by_cases c2 : k = "write"
      · rw [if_pos c2] at h
        match ds, h with
        | [w, x], h =>
          have h2 : isHost w = true ∧ isWord x = true := by
            have h' : (isHost w && isWord x) = true := h
            rwa [Bool.and_eq_true] at h'
          match w, h2.1, x, h2.2 with
          | .str w, a1, .str x, a2 =>
            refine .flat k [w, x] c1 (by show 2 ≤ 2; decide) fun p hp => ?_
            simp only [List.mem_cons, List.not_mem_nil, or_false] at hp
            rcases hp with rfl | rfl | rfl
            · exact hk
            · exact host_part a1
            · exact word_part a2
      · rw [if_neg c2] at h
        have e := txts_all h
        rw [e] at h hl ⊢
        rw [List.length_map] at hl
        refine .flat k (txts ds) c1 (by omega) fun p hp => ?_
        rcases List.mem_cons.mp hp with rfl | hp
        · exact hk
        · exact host_part (hosts_in h p hp)
def cText : PyData → Str
  | .int i => Str.ofString (toString i)
  | _ => Str.empty
def evParts : PyData → List Str
  | .tuple [.str k, .tuple ds, c] => [k, Txt.join "," (txts ds), cText c]
  | .tuple ds => txts ds
  | _ => []
def evText (d : PyData) : Str := Txt.join " " (evParts d)
theorem evParts_ask (xs : List Str) (c : Nat) : evParts (.tuple [.str "ask", .tuple (xs.map PyData.str), .int (c : Int)]) = [("ask" : Str), Txt.join "," xs, numS c] := by
  show [("ask" : Str), Txt.join "," (txts (xs.map PyData.str)), numS c] = _
  rw [txts_map]
theorem evParts_flat (ps : List Str) : evParts (.tuple (ps.map PyData.str)) = ps := by
  have e : evParts (.tuple (ps.map PyData.str)) = txts (ps.map PyData.str) := by
    match ps with
    | [] => rfl
    | [a] => rfl
    | [a, b] => rfl
    | [a, b, c] => rfl
    | a :: b :: c :: d :: r => rfl
  rw [e, txts_map]
theorem ev_split {d : PyData} (h : EvC d) : Txt.split (evText d) " " = evParts d := by
  unfold evText
  cases h with
  | ask xs c l3 cl ah =>
    rw [evParts_ask]
    refine split_sp (fun z => nomatch z) fun p hp => ?_
    simp only [List.mem_cons, List.not_mem_nil, or_false] at hp
    rcases hp with rfl | rfl | rfl
    · decide +kernel
    · exact join_free (by decide +kernel) fun x hx z => let_no.1 ((host_in (hosts_in ah x hx)).2.2 _ z)
    · exact numS_free (.inl (by decide))
  | flat k ps hk l h =>
    rw [← List.map_cons (f := PyData.str), evParts_flat]
    exact split_sp (fun z => nomatch z) fun p hp => (h p hp).1
/-- the data that the parts of a text stand for -/
def evOf : List Str → PyData
  | [k, p, c] => if k = "ask" then .tuple [.str "ask", .tuple ((Txt.split p ",").map PyData.str), oD (pIdx c ((Txt.split p ",").length - 1))] else .tuple [.str k, .str p, .str c]
  | ps => .tuple (ps.map PyData.str)
theorem evOf_n {ps : List Str} (h : ps.length ≠ 3 ∨ ps.head? ≠ some "ask") : evOf ps = .tuple (ps.map PyData.str) := by
  match ps, h with
  | [], _ => rfl
  | [a], _ => rfl
  | [a, b], _ => rfl
  | [a, b, c], h =>
    have n : a ≠ "ask" := fun z => by
      rcases h with h | h
      · exact h rfl
      · exact h (by rw [z]; rfl)
    show (if a = "ask" then _ else PyData.tuple [.str a, .str b, .str c]) = _
    rw [if_neg n]
    rfl
  | a :: b :: c :: d :: r, _ => rfl
theorem evOf_ask (p c : Str) : evOf [("ask" : Str), p, c] = .tuple [.str "ask", .tuple ((Txt.split p ",").map PyData.str), oD (pIdx c ((Txt.split p ",").length - 1))] := by
  show (if ("ask" : Str) = "ask" then PyData.tuple [.str "ask", .tuple ((Txt.split p ",").map PyData.str), oD (pIdx c ((Txt.split p ",").length - 1))] else .tuple [.str "ask", .str p, .str c]) = _
  exact if_pos rfl
theorem ev_back {d : PyData} (h : EvC d) : evOf (Txt.split (evText d) " ") = d := by
  rw [ev_split h]
  cases h with
  | ask xs c l3 cl ah =>
    rw [evParts_ask, evOf_ask, split_co (fun z => by rw [z] at l3; cases l3) fun x hx z => let_no.2 ((host_in (hosts_in ah x hx)).2.2 _ z), pIdx_num (by omega)]
    rfl
  | flat k ps hk l h =>
    rw [← List.map_cons (f := PyData.str), evParts_flat]
    exact evOf_n (.inr fun z => hk (by injection z))
theorem ask_len {xs : List Str} {c : PyData} (sm : sml (.tuple [.str "ask", .tuple (xs.map PyData.str), c]) = true) : xs.length ≤ 660 := by
  have z : (decide (3 ≤ 660) && (decide (("ask" : Str).length ≤ 640) && ((decide ((xs.map PyData.str).length ≤ 660) && smls (xs.map PyData.str)) && (sml c && true)))) = true := sm
  simp only [Bool.and_eq_true, decide_eq_true_eq, List.length_map] at z
  exact z.2.2.1.1
structure TxtE (K : PySem.W.Frag) (w : World) (mg : Str → Option Value) : Prop where
  ex : ∃ a : Addr, mg "EVENT_SIZES" = some (.ref a) ∧ KFn K w a evF
theorem str_or {K : PySem.W.Frag} {H : Hp} {v : V} {d : PyData} (h : Dn K H v d) : (∃ x, v = .str x ∧ d = .str x) ∨ ((∀ x, d ≠ .str x) ∧ ∃ t, TyX K H v (.type t) ∧ kitB t "str" = some false) := by
  cases h with
  | non => exact .inr ⟨(fun _ z => nomatch z), _, .base .non, by decide +kernel⟩
  | bl b => exact .inr ⟨(fun _ z => nomatch z), _, .base (.bl b), by decide +kernel⟩
  | int i => exact .inr ⟨(fun _ z => nomatch z), _, .base (.int i), by decide +kernel⟩
  | str x => exact .inl ⟨x, rfl, rfl⟩
  | lst e _ => exact .inr ⟨(fun _ z => nomatch z), _, .base (.lst e), by decide +kernel⟩
  | tup e t => exact .inr ⟨(fun _ z => nomatch z), _, e.ty, by decide +kernel⟩
  | dic e => exact .inr ⟨(fun _ z => nomatch z), _, .base (.dK e), by decide +kernel⟩
section
variable {P : Program} {w : World} {K : PySem.W.Frag} {mg : Str → Option Value} {base : Heap} {H : Hp}
def spForm (K : PySem.W.Frag) : Sp := fun vs H Q _ => ∃ (v : V) (d : PyData), vs = [v] ∧ Dn K H v d ∧ Q (.bl (hasForm d)) H
theorem ok_form {f : Addr} {fd : FuncData} (F : Fun K "has_event_form" "has_event_form" s_has_event_form f fd) (Y : Bn mg) (T : TxtE K w mg) : FnOk P w K mg base CX0 1 f fd ["value"] (spForm K) := by
  obtain ⟨ea, gE, kf⟩ := T.ex
  refine F.ok sc_has_event_form (fun vs H Q E h => ?_) (fun cdv A outer s H vs Q E hr h => ?_)
  · obtain ⟨v, d, rfl, _⟩ := h
    rfl
  · obtain ⟨v, d, rfl, dn, q⟩ := h
    refine ⟨_, (pss_cons (ps_if (PW.pt (pw_or (pt_not (pt_val (pe_callB call_isi (by rfl) Y.isinstance (by decide +kernel) (pa_cons (pv 0) (pa_cons (pe_bltn (v := .ty "tuple") (by rfl) Y.tuple (by decide +kernel) rfl) pa_nil))))) (pw_or (pt_cmpR op_eq (pe_callB call_len_seq (by rfl) Y.len PySem.boot_len (pa_cons (pv 0) pa_nil)) pe_int (nomark _)) (pw_or1 (pt_not (pt_val (pe_callB call_isi (by rfl) Y.isinstance (by decide +kernel) (pa_cons (pe_ix ix_tup (pv 0) pe_int (fun _ _ => rfl)) (pa_cons (pe_bltn (v := .ty "str") (by rfl) Y.str (by decide +kernel) rfl) pa_nil)))))))))
 (pss_one (ps_ret pe_bl))
 pss_nil)
 (pss_one (ps_ret (pe_cmpR op_eq (pe_kget (pe_glob (v := .ref ea) (by rfl) gE rfl) (pe_ix ix_tup (pv 0) pe_int (fun _ _ => rfl)) ⟨rfl, rfl, rfl, rfl⟩) (pe_callB call_len_seq (by rfl) Y.len PySem.boot_len (pa_cons (pv 0) pa_nil)) (nomark _))))), ?_⟩
    rcases tup_or dn with ⟨a, xs, ds, rfl, rfl, ha, hd⟩ | ⟨no, t, ty, kt⟩
    · refine ⟨_, rfl, _, _, _, _, true, rfl, .ty "tuple", ha.ty, kit_ty (by decide +kernel), _, rfl, iteF ?_⟩
      refine ⟨_, rfl, a, _, rfl, .inr ha.sq, rfl, _, rfl, ?_⟩
      cases hd with
      | nil =>
        refine iteT (iteT ?_)
        exact q
      | @cons x xs d0 ds h0 hd =>
        refine iteF ?_
        refine ⟨_, rfl, a, _, 0, x, rfl, rfl, ha.sq, atI_nat (j := 0) rfl, ?_⟩
        rcases str_or h0 with ⟨k, rfl, rfl⟩ | ⟨no, t, ty, kt⟩
        · refine ⟨_, _, _, _, true, rfl, .ty "str", .base (.str k), kit_ty (by decide +kernel), _, rfl, iteF ?_⟩
          have el := Dns.len hd
          have e : hasForm (.tuple (.str k :: ds)) = decide (evSz k = some (ds.length + 1)) := rfl
          rw [e] at q
          refine ⟨ea, evF, rfl, kf, _, rfl, a, _, 0, _, rfl, rfl, ha.sq, atI_nat (j := 0) rfl, k, rfl, ?_⟩
          unfold evF
          cases c : evSz k with
          | none =>
            rw [c] at q
            refine ⟨_, rfl, a, _, rfl, .inr ha.sq, rfl, ?_⟩
            exact q
          | some n =>
            rw [c] at q
            refine ⟨_, rfl, a, _, rfl, .inr ha.sq, rfl, ?_⟩
            have z : decide (some n = some (ds.length + 1)) = decide (V.int (n : Int) = V.int ((V.str k :: xs).length : Int)) := by
              congr 1
              rw [eq_iff_iff, List.length_cons, el]
              constructor
              · intro h
                injection h with h
                rw [h]
              · intro h
                injection h with h
                congr 1
                omega
            rw [z] at q
            exact q
        · refine ⟨x, _, _, _, false, rfl, .ty "str", ty, kit_ty kt, _, rfl, iteT ?_⟩
          have z : hasForm (.tuple (d0 :: ds)) = false := by
            cases d0 with
            | str k => exact absurd rfl (no k)
            | _ => rfl
          rw [z] at q
          exact q
    · refine ⟨v, rfl, v, _, _, _, false, rfl, .ty "tuple", ty, kit_ty kt, _, rfl, ?_⟩
      refine iteT (iteT ?_)
      have z : hasForm d = false := by
        cases d with
        | tuple ds => exact absurd rfl (no ds)
        | _ => rfl
      rw [z] at q
      exact q
theorem form_t {d : PyData} (h : hasForm d = true) : ∃ k ds, d = .tuple (.str k :: ds) ∧ evSz k = some (ds.length + 1) := by
  match d, h with
  | .tuple (.str k :: ds), h => exact ⟨k, ds, rfl, of_decide_eq_true h⟩
theorem form_f {d : PyData} (h : hasForm d = false) : isEv d = false := by
  cases d with
  | tuple ds =>
    cases ds with
    | nil => rfl
    | cons e ds =>
      cases e with
      | str k =>
        rw [isEv_t]
        have z : decide (evSz k = some (ds.length + 1)) = false := h
        rw [z]
        rfl
      | _ => rfl
  | _ => rfl
def spEv (K : PySem.W.Frag) : Sp := fun vs H Q _ => ∃ (v : V) (d : PyData), vs = [v] ∧ Dn K H v d ∧ sml d = true ∧ ∀ H', Same H H' → Q (.bl (isEv d)) H'
theorem ok_ev {f : Addr} {fd : FuncData} (F : Fun K "is_event" "is_event" s_is_event f fd) (Y : Bn mg) (G_has_event_form : Fk P w K mg base CX0 1 "has_event_form" ["value"] (spForm K)) (G_is_relink : Fk P w K mg base CX0 4 "is_relink" ["value"] (spRel K)) (G_is_host_name : Fk P w K mg base CX0 2 "is_host_name" ["value"] (spHost K)) (G_is_word : Fk P w K mg base CX0 2 "is_word" ["value"] (spWord K)) :
    FnOk P w K mg base CX0 5 f fd ["value"] (spEv K) := by
  refine F.ok sc_is_event (fun vs H Q E h => ?_) (fun cdv A outer s H vs Q E hr h => ?_)
  · obtain ⟨v, d, rfl, _⟩ := h
    rfl
  · obtain ⟨v, d, rfl, dn, sm, q⟩ := h
    refine ⟨_, (pss_cons (ps_if (pt_not (pt_val (pe_callF G_has_event_form (hr.mono (by decide)) (by rfl) pass0 (pa_cons (pv 0) pa_nil))))
 (pss_one (ps_ret pe_bl))
 pss_nil)
 (pss_cons (ps_set (i := 1) sc_is_event.nd rfl (.inl rfl) (pe_slice sl_cutA (pv 0) (po_some pe_int) po_none))
 (pss_cons (ps_if (pt_cmpR op_eq (pe_ix ix_tup (pv 0) pe_int (fun _ _ => rfl)) pe_str (nomark _))
 (pss_one (ps_ret (pe_callF G_is_relink (hr.mono (by decide)) (by rfl) pass0 (pa_cons (pv 1) pa_nil))))
 pss_nil)
 (pss_cons (ps_if (pt_cmpR op_eq (pe_ix ix_tup (pv 0) pe_int (fun _ _ => rfl)) pe_str (nomark _))
 (pss_one (ps_ret (pe_and (pe_callF G_is_host_name (hr.mono (by decide)) (by rfl) pass0 (pa_cons (pe_ix ix_tup (pv 1) pe_int (fun _ _ => rfl)) pa_nil)) (pe_one (pe_callF G_is_word (hr.mono (by decide)) (by rfl) pass0 (pa_cons (pe_ix ix_tup (pv 1) pe_int (fun _ _ => rfl)) pa_nil))))))
 pss_nil)
 (pss_one (ps_ret (pe_callB (cr_all rfl) (by rfl) Y.all (by decide +kernel) (pa_cons (pe_lc (own := [("part", 2)]) (g := gName 2) (tt := tYes) rfl sc_is_event.nd (pi_tup (pv 1)) (blkOk_by (N := ["value", "parts", "part"]) (sc := defScope s_is_event) (by decide +kernel)) (fun _ _ _ _ _ => (pg_name (i := 2) sc_is_event.nd rfl (Or.inl rfl))) (fun _ _ _ _ _ => pts_nil) (fun _ _ _ _ _ => (pe_callF G_is_host_name (hr.mono (by decide)) (by rfl) pass0 (pa_cons (pv 2) pa_nil)))) pa_nil)))))))), ?_⟩
    refine ⟨_, rfl, v, d, rfl, dn, _, rfl, ?_⟩
    cases cf : hasForm d with
    | false =>
      rw [form_f cf] at q
      exact iteT (q _ (Same.refl _))
    | true =>
      refine iteF ?_
      obtain ⟨k, ds, rfl, hs⟩ := form_t cf
      have l3 := evSz_le hs
      rw [isEv_t, decide_eq_true hs, Bool.true_and] at q
      have sm2 : (k :: ([] : List Str)).length ≤ 660 ∧ smls ds = true := by
        have z : (decide ((PyData.str k :: ds).length ≤ 660) && (sml (.str k) && smls ds)) = true := sm
        simp only [Bool.and_eq_true] at z
        exact ⟨by show 1 ≤ 660; decide, z.2.2⟩
      have smd : sml (.tuple ds) = true := by
        show (decide (ds.length ≤ 660) && smls ds) = true
        rw [decide_eq_true (by omega), sm2.2]
        rfl
      cases dn with
      | @tup a vs _ ha hd =>
      cases hd with
      | @cons x xs _ _ h0 hd =>
      cases h0
      have el := Dns.len hd
      refine ⟨_, rfl, 1, rfl, a, _, rfl, ha, ?_⟩
      rw [cut1]
      refine ⟨fun z => ?_, fun p o np st tp => ?_⟩
      · have z := congrArg List.length z
        rw [List.length_cons] at z
        omega
      generalize upd _ p o = H1 at st tp ⊢
      have ha1 := ha.same st
      have hd1 := hd.same st
      refine ⟨_, rfl, a, _, 0, _, rfl, rfl, ha1.sq, atI_nat (j := 0) rfl, rfl, _, rfl, ite2 (fun c => ?_) (fun c => ?_)⟩
      · have c' : k = "ask" := by
          have z := of_decide_eq_true c
          injection z
        rw [if_pos c'] at q
        exact ⟨_, rfl, _, _, rfl, .tup tp hd1, smd, fun H2 s2 => q _ (st.trans s2)⟩
      have c1 : ¬ k = "ask" := fun z => c (decide_eq_true (by rw [z]))
      rw [if_neg c1] at q
      refine ⟨_, rfl, a, _, 0, _, rfl, rfl, ha1.sq, atI_nat (j := 0) rfl, rfl, _, rfl, ite2 (fun c => ?_) (fun c => ?_)⟩
      · have c' : k = "write" := by
          have z := of_decide_eq_true c
          injection z
        rw [if_pos c'] at q
        subst c'
        have l2 : ds.length = 2 := by
          have z : (some 3 : Option Nat) = some (ds.length + 1) := hs
          injection z with z
          omega
        match xs, ds, hd1, l2 with
        | _, [dw, dx], .cons hw (.cons hx .nil), _ =>
          have mw : sml dw = true := smls_mem sm2.2 List.mem_cons_self
          have mx : sml dx = true := smls_mem sm2.2 (List.mem_cons_of_mem _ List.mem_cons_self)
          refine ⟨_, rfl, p, _, 0, _, rfl, rfl, tp.sq, atI_nat (j := 0) rfl, _, rfl, kd_dn hw mw, fun H2 s2 => ?_⟩
          rw [host_dn hw]
          have e : wr2 [dw, dx] = (isHost dw && isWord dx) := rfl
          rw [e] at q
          refine ⟨_, rfl, ite2 (fun c1 => ?_) (fun c1 => ?_)⟩
          · rw [c1, Bool.true_and] at q
            refine ⟨_, rfl, p, _, 1, _, rfl, rfl, (tp.same s2).sq, atI_nat (j := 1) rfl, _, rfl, kd_dn (hx.same s2) mx, fun H3 s3 => ?_⟩
            rw [word_dn hx]
            exact q _ (st.trans (s2.trans s3))
          · rw [Bool.eq_false_iff.mpr c1, Bool.false_and] at q
            exact q _ (st.trans s2)
      have c2 : ¬ k = "write" := fun z => c (decide_eq_true (by rw [z]))
      rw [if_neg c2] at q
      refine ⟨_, rfl, p, rfl, ⟨_, tp.sq⟩, fun D hD => ?_⟩
      refine lc_it (walk_tup (K := K) (a := p) (xs := xs)) (fun i H' => Same H1 H' ∧ H' D = some (.lst (((ds.take i).map isHost).map V.bl))) ⟨same_upd hD, upd_same⟩ (fun i H' _ h => (tp.same h.1).sq) ?_ ?_
      · rintro i y H2 H3 hi ⟨s1, hL⟩ ⟨rfl, hy⟩
        obtain ⟨di, hdi, dni⟩ := Dns.get hd1 hy
        refine ⟨rfl, ?_⟩
        dsimp only [tYes]
        refine iteT ?_
        refine ⟨_, rfl, y, rfl, kd_dn (dni.same s1) (smls_mem sm2.2 (List.mem_of_getElem? hdi)), fun H4 s3 => ?_⟩
        refine ⟨_, s3 _ _ hL, ?_, same_upd2 (s1.trans s3) hD, ?_⟩
        · rw [List.length_map, List.length_map, List.length_take]
          exact small200 (by omega)
        · rw [upd_same, host_dn dni, List.take_add_one, hdi, List.map_append, List.map_append]
          rfl
      · rintro H2 ⟨s1, hL⟩
        rw [el, List.take_of_length_le (Nat.le_refl _)] at hL
        refine ⟨D, _, rfl, SqL.of hL, ?_⟩
        rw [List.all_map]
        exact q _ (st.trans s1)
def spET (K : PySem.W.Frag) (C : Addr) : Sp := fun vs H Q E => ∃ (v : V) (d : PyData), vs = [v] ∧ Dn K H v d ∧ sml d = true ∧ (isEv d = true → ∀ H', Same H H' → Q (.str (evText d)) H') ∧ (isEv d = false → Ro E C "value" v H)
theorem ok_et {f C : Addr} {fd : FuncData} (F : Fun K "event_text" "event_text" s_event_text f fd) (R : Rz P w K mg base "InvalidEvent" "value" C) (G_is_event : Fk P w K mg base CX0 5 "is_event" ["value"] (spEv K)) (G_relink_text : Fk P w K mg base CX0 1 "relink_text" ["relink"] spRT) : FnOk P w K mg base (L2.CX P w) 6 f fd ["event"] (spET K C) := by
  obtain ⟨fI, fdI, XI, GI, bI⟩ := R.ex
  refine F.okX sc_event_text (fun vs H Q E h => ?_) (fun cdv A outer s H vs Q E hr h => ?_)
  · obtain ⟨v, d, rfl, _⟩ := h
    rfl
  · obtain ⟨v, d, rfl, dn, sm, q1, q2⟩ := h
    refine ⟨_, (pss_cons (ps_if (pt_not (pt_val (pe_callF G_is_event (hr.mono (by decide)) (by rfl) pass0 (pa_cons (pv 0) pa_nil))))
 (pss_one (ps_raise1 rfl (takes_of rfl rfl rfl rfl) XI R.ty GI (hr.mono (by decide)) bI (by rfl) R.gm (pa_cons (pv 0) pa_nil)))
 pss_nil)
 (pss_cons (ps_if (pt_cmpR op_eq (pe_ix ix_tup (pv 0) pe_int (fun _ _ => rfl)) pe_str (nomark _))
 (pss_one (ps_ret (pe_joined (.cons pe_str (.cons (pe_fmt (pe_callF G_relink_text (hr.mono (by decide)) (by rfl) pass0 (pa_cons (pe_slice sl_cutA (pv 0) (po_some pe_int) po_none) pa_nil))) .nil)))))
 pss_nil)
 (pss_one (ps_ret (pe_join pe_str (pv 0)))))), ?_⟩
    refine ⟨_, rfl, v, d, rfl, dn, sm, fun H1 s1 => ⟨_, rfl, ?_⟩⟩
    cases cI : isEv d with
    | false =>
      refine iteT ⟨_, rfl, v, rfl, fun dx nd => ?_⟩
      exact q2 cI _ dx (s1.trans (same_upd nd)) upd_same
    | true =>
      refine iteF ?_
      have q := q1 cI
      have ec := ev_cases cI
      cases ec with
      | ask xs c l3 cl ah =>
        have ln := ask_len sm
        cases dn with
        | @tup a vs _ ha hd =>
        cases hd with
        | @cons x0 _ _ _ h0 hd =>
        cases h0
        cases hd with
        | @cons x1 _ _ _ h1 hd =>
        cases hd with
        | @cons x2 _ _ _ h2 hd =>
        cases hd
        cases h2
        cases h1 with
        | @tup b ys _ hb hx =>
        have ex := Dns.txts hx
        subst ex
        have ha1 := ha.same s1
        have hb1 := hb.same s1
        refine ⟨_, rfl, a, _, 0, _, rfl, rfl, ha1.sq, atI_nat (j := 0) rfl, rfl, _, rfl, iteT ?_⟩
        have jl : (Txt.join "," xs).length ≤ 660 * (8 + 1) := joinLen (fun x hx => (host_in (hosts_in ah x hx)).2.1) ln rfl
        have lN : (numS c).length ≤ 4 := numS_len (by decide) (by show c < 10000; omega)
        refine ⟨_, rfl, (by rw [str_app_empty]; decide), ?_⟩
        refine ⟨_, rfl, 1, rfl, a, _, rfl, ha1, ?_⟩
        rw [cut1]
        refine ⟨fun z => ?_, fun p o np sp tp => ?_⟩
        · have z := congrArg List.length z
          simp at z
        · refine ⟨p, b, xs, c, rfl, tp, hb1.same sp, fun x hx => (host_in (hosts_in ah x hx)).2.1, by omega, by omega, ?_⟩
          refine .inl ⟨_, rfl, (by rw [len_app, len_app]; exact le400 (by show _ + 1 + _ ≤ _; omega)), ?_⟩
          refine ⟨_, rfl, (by rw [str_app_empty, len_app, len_app, len_app]; exact le400 (by show 4 + (_ + 1 + _) ≤ _; omega)), ?_⟩
          have et : Str.empty ++ "ask " ++ (Txt.join "," xs ++ " " ++ numS c) = evText (.tuple [.str "ask", .tuple (xs.map PyData.str), .int (c : Int)]) := by
            unfold evText
            rw [evParts_ask, join3, str_app_empty, show ("ask " : Str) = ("ask" : Str) ++ (" " : Str) by decide +kernel, ← str_assoc, ← str_assoc]
          rw [← et] at q
          exact q _ (s1.trans sp)
      | flat k ps hk l hp =>
        have et : evText (.tuple (.str k :: ps.map PyData.str)) = Txt.join " " (k :: ps) := by
          unfold evText
          rw [← List.map_cons (f := PyData.str), evParts_flat]
        rw [et] at q
        cases dn with
        | @tup a vs _ ha hd =>
        have ex := Dns.txts (xs := k :: ps) hd
        subst ex
        have ha1 := ha.same s1
        refine ⟨_, rfl, a, _, 0, .str k, rfl, rfl, ha1.sq, atI_nat (j := 0) rfl, rfl, _, rfl, ?_⟩
        rw [decide_eq_false (show ¬ V.str k = V.str "ask" from fun z => hk (by injection z))]
        refine iteF ?_
        refine ⟨⟨_, rfl⟩, _, rfl, _, a, k :: ps, rfl, rfl, .inr ha1.sq, ?_, q _ s1⟩
        have z : ((k :: ps).map (·.length)).sum ≤ (k :: ps).length * 12 := sum_le fun x hx => (hp x hx).2.1
        have y : ((" ": Str)).length = 1 := rfl
        rw [List.length_cons] at z
        rw [y, List.length_cons]
        omega
def spEF (K : PySem.W.Frag) : Sp := fun vs H Q _ => ∃ (L : Addr) (ps : List Str), vs = [.ref L] ∧ H L = some (.lst (ps.map V.str)) ∧ ps ≠ [] ∧ ps.length ≤ 950 ∧ (∀ p ∈ ps, p.length ≤ 900) ∧ ∀ H' (t : Addr), Same H H' → Dn K H' (.ref t) (evOf ps) → Q (.ref t) H'
theorem ok_ef {f : Addr} {fd : FuncData} (F : Fun K "event_from" "event_from" s_event_from f fd) (Y : Bn mg) (G_relink_from : Fk P w K mg base CX0 2 "relink_from" ["hosts", "cut"] spRF) : FnOk P w K mg base CX0 3 f fd ["parts"] (spEF K) := by
  refine F.ok sc_event_from (fun vs H Q E h => ?_) (fun cdv A outer s H vs Q E hr h => ?_)
  · obtain ⟨L, ps, rfl, _⟩ := h
    rfl
  · obtain ⟨L, ps, rfl, hL, ne, l9, lp, q⟩ := h
    refine ⟨_, (pss_cons (ps_if (PW.pt (pw_or (pt_cmpR op_ne (pe_ix ix_list (pv 0) pe_int (fun _ _ => rfl)) pe_str (nomark _)) (pw_or1 (pt_cmpR op_ne (pe_callB call_len_seq (by rfl) Y.len PySem.boot_len (pa_cons (pv 0) pa_nil)) pe_int (nomark _)))))
 (pss_one (ps_ret (pe_callTy call_tupOf (by rfl) Y.tuple (by decide +kernel) (pa_cons (pv 0) pa_nil))))
 pss_nil)
 (pss_cons (ps_asg (pe_callF G_relink_from (hr.mono (by decide)) (by rfl) pass0 (pa_cons (pe_ix ix_list (pv 0) pe_int (fun _ _ => rfl)) (pa_cons (pe_ix ix_list (pv 0) pe_int (fun _ _ => rfl)) pa_nil))) (pg_tup (by rfl) (pgs_cons (pg_name (i := 1) sc_event_from.nd rfl (Or.inl rfl)) (pgs_cons (pg_name (i := 2) sc_event_from.nd rfl (Or.inl rfl)) pgs_nil))))
 (pss_one (ps_ret (pe_tupZ (pa_cons pe_str (pa_cons (pv 1) (pa_cons (pv 2) pa_nil)))))))), ?_⟩
    match ps, ne with
    | k :: ps, _ =>
    have tup : (k :: ps).length ≠ 3 ∨ (k :: ps).head? ≠ some "ask" → ∃ p ys, [V.ref L] = [.ref p] ∧ SqL K H p ys ∧ ys.length ≤ 1000 ∧ NewT ys H Q := fun z => by
      rw [evOf_n z] at q
      exact ⟨L, _, rfl, SqL.of hL, (by rw [List.length_map]; omega), fun p o np sp tp => q _ p sp (.tup tp (dns_strs _))⟩
    refine ⟨_, rfl, L, _, 0, .str k, rfl, rfl, SqL.of hL, atI_nat (j := 0) rfl, rfl, _, rfl, ite2 (fun c => ?_) (fun c => ?_)⟩
    · have c' : k ≠ "ask" := fun z => by
        rw [z] at c
        exact absurd c (by decide +kernel)
      refine iteT ⟨_, rfl, tup (.inr fun z => c' (by injection z))⟩
    have ck : k = "ask" := Decidable.of_not_not fun z => c (by
      rw [decide_eq_false (show ¬ V.str k = V.str "ask" from fun y => z (by injection y))]
      rfl)
    refine ⟨_, rfl, L, _, rfl, .inl (SqL.of hL), rfl, _, rfl, ite2 (fun c => ?_) (fun c => ?_)⟩
    · have c' : (k :: ps).length ≠ 3 := fun z => by
        rw [List.length_map, z] at c
        exact absurd c (by decide)
      exact ⟨_, rfl, tup (.inl c')⟩
    have c' : (k :: ps).length = 3 := Decidable.of_not_not fun z => c (by
      rw [decide_eq_false (show ¬ V.int (((k :: ps).map V.str).length : Int) = V.int 3 from fun y => z (by injection y with y; rw [List.length_map] at y; omega))]
      rfl)
    obtain ⟨p, x, rfl⟩ : ∃ b c, ps = [b, c] := by
      match ps, c' with
      | [b, c], _ => exact ⟨b, c, rfl⟩
    subst ck
    rw [evOf_ask] at q
    refine ⟨_, rfl, L, _, 1, .str p, rfl, rfl, SqL.of hL, atI_nat (j := 1) rfl, _, rfl, L, _, 2, .str x, rfl, rfl, SqL.of hL, atI_nat (j := 2) rfl, p, x, rfl, lp p (by simp), fun H1 t pa s1 tt tp => ?_⟩
    refine ⟨t, _, rfl, tt.sq, rfl, _, _, rfl, _, _, rfl, rfl, ?_⟩
    refine ⟨_, rfl, _, rfl, (by show 3 ≤ sizeLine; decide), fun u ou nu su tu => ?_⟩
    exact q _ u (s1.trans su) (.tup tu (.cons (.str _) (.cons (.tup (tp.same su) (dns_strs _)) (.cons (dn_o _) .nil))))
def spPE (K : PySem.W.Frag) (C : Addr) : Sp := fun vs H Q E => ∃ (v : V) (d : PyData), vs = [v] ∧ Dn K H v d ∧
  (∀ x, d = .str x → x.length ≤ 640 ∧ (isEv (evOf (Txt.split x " ")) = true → ∀ H' t, Same H H' → Dn K H' (.ref t) (evOf (Txt.split x " ")) → Q (.ref t) H') ∧ (isEv (evOf (Txt.split x " ")) = false → Ro E C "value" v H)) ∧ ((∀ x, d ≠ .str x) → Ro E C "value" v H)
theorem sml_ev {ps : List Str} (l : ps.length ≤ 660) (h : ∀ p ∈ ps, p.length ≤ 640) : sml (evOf ps) = true ∧ ∀ (o : Option Nat) (p c : Str), ps = [("ask" : Str), p, c] → sml (.tuple [.str "ask", .tuple ((Txt.split p ",").map PyData.str), oD o]) = true := by
  have gen : sml (.tuple (ps.map PyData.str)) = true := by
    show (decide ((ps.map PyData.str).length ≤ 660) && smls (ps.map PyData.str)) = true
    rw [smls_strs h, decide_eq_true (show (ps.map PyData.str).length ≤ 660 by rw [List.length_map]; exact l)]
    rfl
  have ask : ∀ (o : Option Nat) (p c : Str), ps = [("ask" : Str), p, c] → sml (.tuple [.str "ask", .tuple ((Txt.split p ",").map PyData.str), oD o]) = true := fun o p c e => by
    subst e
    show (decide (3 ≤ 660) && (decide (("ask" : Str).length ≤ 640) && ((decide (((Txt.split p ",").map PyData.str).length ≤ 660) && smls ((Txt.split p ",").map PyData.str)) && (sml (oD o) && true)))) = true
    have lp := h p (by simp)
    have sl := PyProof.Rows.split_le p ","
    rw [sml_o, decide_eq_true (show ("ask" : Str).length ≤ 640 by decide), decide_eq_true (show ((Txt.split p ",").map PyData.str).length ≤ 660 by rw [List.length_map]; omega), smls_strs fun q hq => Nat.le_trans (part_le p hq) lp]
    rfl
  refine ⟨?_, ask⟩
  by_cases c : ps.length ≠ 3 ∨ ps.head? ≠ some "ask"
  · rw [evOf_n c]
    exact gen
  · have c1 : ps.length = 3 := Decidable.of_not_not fun z => c (.inl z)
    have c2 : ps.head? = some "ask" := Decidable.of_not_not fun z => c (.inr z)
    match ps, c1, c2, ask with
    | [k, p, x], _, c2, ask =>
      have e : k = "ask" := by injection c2
      subst e
      rw [evOf_ask]
      exact ask _ p x rfl
theorem sml_tx {x : Str} (l : x.length ≤ 640) : sml (evOf (Txt.split x " ")) = true :=
  (sml_ev (by have := PyProof.Rows.split_le x " "; omega) fun p hp => Nat.le_trans (part_le x hp) l).1
theorem ok_pe {f C : Addr} {fd : FuncData} (F : Fun K "parse_event" "parse_event" s_parse_event f fd) (Y : Bn mg) (R : Rz P w K mg base "InvalidText" "value" C) (G_event_from : Fk P w K mg base CX0 3 "event_from" ["parts"] (spEF K))
    (G_is_event : Fk P w K mg base CX0 5 "is_event" ["value"] (spEv K)) : FnOk P w K mg base (L2.CX P w) 6 f fd ["text"] (spPE K C) := by
  obtain ⟨fI, fdI, XI, GI, bI⟩ := R.ex
  refine F.okX sc_parse_event (fun vs H Q E h => ?_) (fun cdv A outer s H vs Q E hr h => ?_)
  · obtain ⟨v, d, rfl, _⟩ := h
    rfl
  · obtain ⟨v, d, rfl, dn, q1, q2⟩ := h
    refine ⟨_, (pss_cons (ps_if (pt_not (pt_val (pe_callB call_isi (by rfl) Y.isinstance (by decide +kernel) (pa_cons (pv 0) (pa_cons (pe_bltn (v := .ty "str") (by rfl) Y.str (by decide +kernel) rfl) pa_nil)))))
 (pss_one (ps_raise1 rfl (takes_of rfl rfl rfl rfl) XI R.ty GI (hr.mono (by decide)) bI (by rfl) R.gm (pa_cons (pv 0) pa_nil)))
 pss_nil)
 (pss_cons (ps_set (i := 1) sc_parse_event.nd rfl (.inl rfl) (pe_callF G_event_from (hr.mono (by decide)) (by rfl) pass0 (pa_cons (pe_split (pv 0) pe_str) pa_nil)))
 (pss_cons (ps_if (pt_not (pt_val (pe_callF G_is_event (hr.mono (by decide)) (by rfl) pass0 (pa_cons (pv 1) pa_nil))))
 (pss_one (ps_raise1 rfl (takes_of rfl rfl rfl rfl) XI R.ty GI (hr.mono (by decide)) bI (by rfl) R.gm (pa_cons (pv 0) pa_nil)))
 pss_nil)
 (pss_one (ps_ret (pv 1)))))), ?_⟩
    rcases str_or dn with ⟨x, rfl, rfl⟩ | ⟨no, t, ty, kt⟩
    · obtain ⟨l9, qa, qb⟩ := q1 x rfl
      have sm := sml_tx l9
      refine ⟨_, rfl, _, _, _, _, true, rfl, .ty "str", .base (.str x), kit_ty (by decide +kernel), _, rfl, iteF ?_⟩
      have sl := PyProof.Rows.split_le x " "
      refine ⟨_, rfl, ⟨_, rfl⟩, _, _, rfl, rfl, rfl, le400 (by omega), fun L nL => ?_⟩
      generalize hg : upd _ L _ = H1
      obtain ⟨s1, g1⟩ := (show Same H H1 ∧ H1 L = some (.lst ((Txt.split x " ").map V.str)) by rw [← hg]; exact ⟨same_upd nL, upd_same⟩)
      clear hg
      refine ⟨L, _, rfl, g1, split_ne x, by omega, fun p hp => Nat.le_trans (part_le x hp) (by omega), fun H2 t s2 dt => ?_⟩
      have s12 := s1.trans s2
      refine ⟨_, rfl, _, _, rfl, dt, sm, fun H3 s3 => ⟨_, rfl, ?_⟩⟩
      cases c : isEv (evOf (Txt.split x " ")) with
      | true => exact iteF ⟨_, rfl, qa c _ t (s12.trans s3) (dt.same s3)⟩
      | false =>
        refine iteT ⟨_, rfl, _, rfl, fun dx nd => ?_⟩
        exact qb c _ dx ((s12.trans s3).trans (same_upd nd)) upd_same
    · refine ⟨v, rfl, v, _, _, _, false, rfl, .ty "str", ty, kit_ty kt, _, rfl, iteT ?_⟩
      refine ⟨_, rfl, v, rfl, fun dx nd => ?_⟩
      exact q2 no _ dx (same_upd nd) upd_same
end
end My

namespace My
open PySem PySem.Spec PyProof.Rows L2 Gy Xl Xs Xt
/-! ### the law's own checks -/
theorem let_mem (c : Nat) : decide (c ∈ LET.cps.toList) = (decide (97 ≤ c) && decide (c ≤ 122)) := by
  have e : LET.cps.toList = [97, 98, 99, 100, 101, 102, 103, 104, 105, 106, 107, 108, 109, 110, 111, 112, 113, 114, 115, 116, 117, 118, 119, 120, 121, 122] := by decide +kernel
  rw [e, ← Bool.decide_and]
  congr 1
  simp only [List.mem_cons, List.not_mem_nil, or_false, eq_iff_iff]
  omega
theorem lt1 (a b : Nat) : decide (([a] : List Nat) < [b]) = decide (a < b) := by
  congr 1
  simp [List.cons_lt_cons_iff]
theorem ge_sign (k : Nat) (x : Str) (hx : x.cps.toList = [k]) (c : Nat) : (!decide ((⟨#[c]⟩ : Str).cps.toList < x.cps.toList)) = decide (k ≤ c) := by
  rw [hx, show (⟨#[c]⟩ : Str).cps.toList = [c] from rfl, lt1, ← decide_not]
  congr 1
  simp only [Nat.not_lt]
theorem le_sign (k : Nat) (x : Str) (hx : x.cps.toList = [k]) (c : Nat) : (!decide (x.cps.toList < (⟨#[c]⟩ : Str).cps.toList)) = decide (c ≤ k) := by
  rw [hx, show (⟨#[c]⟩ : Str).cps.toList = [c] from rfl, lt1, ← decide_not]
  congr 1
  simp only [Nat.not_lt]
theorem dig_b (c : Nat) : dig c = (decide (48 ≤ c) && decide (c ≤ 57)) := by
  rw [Bool.eq_iff_iff, dig_iff, Bool.and_eq_true, decide_eq_true_eq, decide_eq_true_eq]
theorem wsg_mem (c : Nat) : decide (c ∈ WSG.cps.toList) = ((decide (97 ≤ c) && decide (c ≤ 122)) || (decide (48 ≤ c) && decide (c ≤ 57))) := by
  have e : WSG.cps.toList = LET.cps.toList ++ ("0123456789" : Str).cps.toList := by decide +kernel
  rw [← let_mem, ← dig_b]
  unfold dig
  rw [← Bool.decide_or, e]
  congr 1
  rw [List.mem_append]
section
variable {P : Program} {w : World} {K : PySem.W.Frag} {mg : Str → Option Value} {base : Heap} {H : Hp}
def spIsName (K : PySem.W.Frag) : Sp := fun vs H Q _ => ∃ (v : V) (d : PyData), vs = [v] ∧ Dn K H v d ∧ sml d = true ∧ ∀ H', Same H H' → Q (.bl (isHost d)) H'
theorem ok_isName {f : Addr} {fd : FuncData} (F : Fun K "_law_is_name" "_law_is_name" s_law_is_name f fd) (Y : Bn mg) : FnOk P w K mg base CX0 1 f fd ["_law_value"] (spIsName K) := by
  refine F.ok sc_law_is_name (fun vs H Q E h => ?_) (fun cdv A outer s H vs Q E hr h => ?_)
  · obtain ⟨v, d, rfl, _⟩ := h
    rfl
  · obtain ⟨v, d, rfl, dn, sm, q⟩ := h
    refine ⟨_, (pss_cons (ps_if (PW.pt (pw_or (pt_not (pt_val (pe_callB call_isi (by rfl) Y.isinstance (by decide +kernel) (pa_cons (pv 0) (pa_cons (pe_bltn (v := .ty "str") (by rfl) Y.str (by decide +kernel) rfl) pa_nil))))) (pw_or1 (pt_not (pt_chain op_le op_le pe_int (pe_callB call_len_str (by rfl) Y.len PySem.boot_len (pa_cons (pv 0) pa_nil)) pe_int)))))
 (pss_one (ps_ret pe_bl))
 pss_nil)
 (pss_one (ps_ret (pe_callB (cr_all rfl) (by rfl) Y.all (by decide +kernel) (pa_cons (pe_lc (own := [("_law_sign", 1)]) (g := gName 1) (tt := tYes) rfl sc_law_is_name.nd (pi_str (pv 0)) (blkOk_by (N := ["_law_value", "_law_sign"]) (sc := defScope s_law_is_name) (by decide +kernel)) (fun _ _ _ _ _ => (pg_name (i := 1) sc_law_is_name.nd rfl (Or.inl rfl))) (fun _ _ _ _ _ => pts_nil) (fun _ _ _ _ _ => (pe_chain op_le_str op_le_str pe_str (pv 1) pe_str))) pa_nil))))), ?_⟩
    have kd := kd_dn dn sm
    rw [← host_dn dn] at q
    cases kd with
    | oth ty no nos =>
      refine ⟨v, rfl, v, _, _, _, false, rfl, .ty "str", ty, kit_ty no, _, rfl, ?_⟩
      refine iteT (iteT ?_)
      rw [textOf_oth nos] at q
      exact q _ (Same.refl _)
    | str x hx =>
      refine ⟨_, rfl, _, _, _, _, true, rfl, .ty "str", .base (.str x), kit_ty (by decide +kernel), _, rfl, ?_⟩
      refine iteF ?_
      have e1 : textOf (.str x) LET 8 = (decide ((1 : Int) ≤ (x.length : Int)) && decide ((x.length : Int) ≤ 8) && allIn LET x) := rfl
      refine ⟨_, rfl, _, rfl, hx, 1, _, rfl, rfl, _, rfl, ?_⟩
      refine ite2 (fun c1 => ?_) (fun c1 => ?_)
      · refine ⟨_, _, rfl, rfl, _, rfl, ?_⟩
        cases c2 : decide ((x.length : Int) ≤ 8) with
        | false =>
          refine iteT ?_
          rw [c2, Bool.and_false, Bool.false_and] at e1
          rw [e1] at q
          exact q _ (Same.refl _)
        | true =>
          refine iteF ?_
          rw [c1, c2, Bool.true_and, Bool.true_and] at e1
          refine ⟨_, rfl, x, rfl, fun D hD => ?_⟩
          refine lc_it (walk_str (z := x)) (fun i H' => Same H H' ∧ H' D = some (.lst (((x.cps.toList.take i).map fun c => decide (c ∈ (LET).cps.toList)).map V.bl)))
            ⟨same_upd hD, upd_same⟩ (fun _ _ _ _ => trivial) ?_ ?_
          · rintro i y H1 H2 hi ⟨sm, hL⟩ ⟨rfl, c, hc, rfl⟩
            have hc' : x.cps.toList[i]? = some c := by rw [Array.getElem?_toList]; exact hc
            have fin : ∀ b : Bool, decide (c ∈ LET.cps.toList) = b → ∃ zs, H2 D = some (.lst zs) ∧ zs.length < sizeLine ∧ Same H (upd H2 D (.lst (zs ++ [V.bl b]))) ∧ (upd H2 D (.lst (zs ++ [V.bl b]))) D = some (.lst (((x.cps.toList.take (i + 1)).map fun c => decide (c ∈ (LET).cps.toList)).map V.bl)) := fun b hb => by
              refine ⟨_, hL, ?_, same_upd2 sm hD, ?_⟩
              · rw [List.length_map, List.length_map, List.length_take]
                refine Nat.lt_of_le_of_lt (Nat.min_le_left _ _) (Nat.lt_of_lt_of_le hi ?_)
                exact hx
              · rw [upd_same, take_succ_all hc', List.map_append, ← hb]
                rfl
            refine ⟨rfl, ?_⟩
            dsimp only [tYes]
            refine iteT ?_
            have lm := let_mem c
            refine ⟨_, rfl, _, _, rfl, rfl, _, rfl, ite2 (fun c3 => ?_) (fun c3 => ?_)⟩
            · have c3' := (ge_sign 97 "a" (by decide +kernel) c).symm.trans c3
              rw [c3', Bool.true_and] at lm
              refine ⟨_, _, rfl, rfl, ?_⟩
              exact fin _ (lm.trans (le_sign 122 "z" (by decide +kernel) c).symm)
            · have c3' : decide (97 ≤ c) = false := (ge_sign 97 "a" (by decide +kernel) c).symm.trans (Bool.eq_false_iff.mpr c3)
              rw [c3', Bool.false_and] at lm
              exact fin false lm
          · rintro H1 ⟨sm, hL⟩
            refine ⟨D, _, rfl, SqL.of hL, ?_⟩
            have e2 : ((x.cps.toList.take x.cps.size).map fun c => decide (c ∈ (LET).cps.toList)).all id = allIn LET x := by
              rw [List.take_of_length_le (by rw [Array.length_toList]; exact Nat.le_refl _), List.all_map]
              rfl
            rw [e1] at q
            show Q (.bl (((x.cps.toList.take x.cps.size).map fun c => decide (c ∈ (LET).cps.toList)).all id)) H1
            rw [e2]
            exact q _ sm
      · refine ⟨_, rfl, ?_⟩
        refine iteT ?_
        have c1' : decide ((1 : Int) ≤ (x.length : Int)) = false := by
          cases z : decide ((1 : Int) ≤ (x.length : Int)) with
          | false => rfl
          | true => exact absurd z c1
        rw [c1', Bool.false_and, Bool.false_and] at e1
        rw [e1] at q
        exact q _ (Same.refl _)
def spIsWord (K : PySem.W.Frag) : Sp := fun vs H Q _ => ∃ (v : V) (d : PyData), vs = [v] ∧ Dn K H v d ∧ sml d = true ∧ ∀ H', Same H H' → Q (.bl (isWord d)) H'
theorem ok_isWord {f : Addr} {fd : FuncData} (F : Fun K "_law_is_word" "_law_is_word" s_law_is_word f fd) (Y : Bn mg) : FnOk P w K mg base CX0 1 f fd ["_law_value"] (spIsWord K) := by
  refine F.ok sc_law_is_word (fun vs H Q E h => ?_) (fun cdv A outer s H vs Q E hr h => ?_)
  · obtain ⟨v, d, rfl, _⟩ := h
    rfl
  · obtain ⟨v, d, rfl, dn, sm, q⟩ := h
    refine ⟨_, (pss_cons (ps_if (PW.pt (pw_or (pt_not (pt_val (pe_callB call_isi (by rfl) Y.isinstance (by decide +kernel) (pa_cons (pv 0) (pa_cons (pe_bltn (v := .ty "str") (by rfl) Y.str (by decide +kernel) rfl) pa_nil))))) (pw_or1 (pt_not (pt_chain op_le op_le pe_int (pe_callB call_len_str (by rfl) Y.len PySem.boot_len (pa_cons (pv 0) pa_nil)) pe_int)))))
 (pss_one (ps_ret pe_bl))
 pss_nil)
 (pss_one (ps_ret (pe_callB (cr_all rfl) (by rfl) Y.all (by decide +kernel) (pa_cons (pe_lc (own := [("_law_sign", 1)]) (g := gName 1) (tt := tYes) rfl sc_law_is_word.nd (pi_str (pv 0)) (blkOk_by (N := ["_law_value", "_law_sign"]) (sc := defScope s_law_is_word) (by decide +kernel)) (fun _ _ _ _ _ => (pg_name (i := 1) sc_law_is_word.nd rfl (Or.inl rfl))) (fun _ _ _ _ _ => pts_nil) (fun _ _ _ _ _ => (pe_or (pe_chain op_le_str op_le_str pe_str (pv 1) pe_str) (pe_one (pe_chain op_le_str op_le_str pe_str (pv 1) pe_str))))) pa_nil))))), ?_⟩
    have kd := kd_dn dn sm
    rw [← word_dn dn] at q
    cases kd with
    | oth ty no nos =>
      refine ⟨v, rfl, v, _, _, _, false, rfl, .ty "str", ty, kit_ty no, _, rfl, ?_⟩
      refine iteT (iteT ?_)
      rw [textOf_oth nos] at q
      exact q _ (Same.refl _)
    | str x hx =>
      refine ⟨_, rfl, _, _, _, _, true, rfl, .ty "str", .base (.str x), kit_ty (by decide +kernel), _, rfl, ?_⟩
      refine iteF ?_
      have e1 : textOf (.str x) WSG 12 = (decide ((1 : Int) ≤ (x.length : Int)) && decide ((x.length : Int) ≤ 12) && allIn WSG x) := rfl
      refine ⟨_, rfl, _, rfl, hx, 1, _, rfl, rfl, _, rfl, ?_⟩
      refine ite2 (fun c1 => ?_) (fun c1 => ?_)
      · refine ⟨_, _, rfl, rfl, _, rfl, ?_⟩
        cases c2 : decide ((x.length : Int) ≤ 12) with
        | false =>
          refine iteT ?_
          rw [c2, Bool.and_false, Bool.false_and] at e1
          rw [e1] at q
          exact q _ (Same.refl _)
        | true =>
          refine iteF ?_
          rw [c1, c2, Bool.true_and, Bool.true_and] at e1
          refine ⟨_, rfl, x, rfl, fun D hD => ?_⟩
          refine lc_it (walk_str (z := x)) (fun i H' => Same H H' ∧ H' D = some (.lst (((x.cps.toList.take i).map fun c => decide (c ∈ (WSG).cps.toList)).map V.bl)))
            ⟨same_upd hD, upd_same⟩ (fun _ _ _ _ => trivial) ?_ ?_
          · rintro i y H1 H2 hi ⟨sm, hL⟩ ⟨rfl, c, hc, rfl⟩
            have hc' : x.cps.toList[i]? = some c := by rw [Array.getElem?_toList]; exact hc
            have fin : ∀ b : Bool, decide (c ∈ WSG.cps.toList) = b → ∃ zs, H2 D = some (.lst zs) ∧ zs.length < sizeLine ∧ Same H (upd H2 D (.lst (zs ++ [V.bl b]))) ∧ (upd H2 D (.lst (zs ++ [V.bl b]))) D = some (.lst (((x.cps.toList.take (i + 1)).map fun c => decide (c ∈ (WSG).cps.toList)).map V.bl)) := fun b hb => by
              refine ⟨_, hL, ?_, same_upd2 sm hD, ?_⟩
              · rw [List.length_map, List.length_map, List.length_take]
                refine Nat.lt_of_le_of_lt (Nat.min_le_left _ _) (Nat.lt_of_lt_of_le hi ?_)
                exact hx
              · rw [upd_same, take_succ_all hc', List.map_append, ← hb]
                rfl
            refine ⟨rfl, ?_⟩
            dsimp only [tYes]
            refine iteT ?_
            have lm := wsg_mem c
            refine ⟨_, rfl, _, _, rfl, rfl, _, rfl, ite2 (fun c3 => ?_) (fun c3 => ?_)⟩
            · have c3' := (ge_sign 97 "a" (by decide +kernel) c).symm.trans c3
              rw [c3', Bool.true_and] at lm
              refine ⟨_, _, rfl, rfl, _, rfl, ite2 (fun c4 => ?_) (fun c4 => ?_)⟩
              · have c4' := (le_sign 122 "z" (by decide +kernel) c).symm.trans c4
                rw [c4', Bool.true_or] at lm
                exact fin true lm
              · have c4' : decide (c ≤ 122) = false := (le_sign 122 "z" (by decide +kernel) c).symm.trans (Bool.eq_false_iff.mpr c4)
                rw [c4', Bool.false_or] at lm
                refine ⟨_, rfl, _, _, rfl, rfl, _, rfl, ite2 (fun c5 => ?_) (fun c5 => ?_)⟩
                · have c5' := (ge_sign 48 "0" (by decide +kernel) c).symm.trans c5
                  rw [c5', Bool.true_and] at lm
                  refine ⟨_, _, rfl, rfl, ?_⟩
                  exact fin _ (lm.trans (le_sign 57 "9" (by decide +kernel) c).symm)
                · have c5' : decide (48 ≤ c) = false := (ge_sign 48 "0" (by decide +kernel) c).symm.trans (Bool.eq_false_iff.mpr c5)
                  rw [c5', Bool.false_and] at lm
                  exact fin false lm
            · have c3' : decide (97 ≤ c) = false := (ge_sign 97 "a" (by decide +kernel) c).symm.trans (Bool.eq_false_iff.mpr c3)
              rw [c3', Bool.false_and, Bool.false_or] at lm
              refine ⟨_, rfl, iteF ?_⟩
              refine ⟨_, rfl, _, _, rfl, rfl, _, rfl, ite2 (fun c5 => ?_) (fun c5 => ?_)⟩
              · have c5' := (ge_sign 48 "0" (by decide +kernel) c).symm.trans c5
                rw [c5', Bool.true_and] at lm
                refine ⟨_, _, rfl, rfl, ?_⟩
                exact fin _ (lm.trans (le_sign 57 "9" (by decide +kernel) c).symm)
              · have c5' : decide (48 ≤ c) = false := (ge_sign 48 "0" (by decide +kernel) c).symm.trans (Bool.eq_false_iff.mpr c5)
                rw [c5', Bool.false_and] at lm
                exact fin false lm
          · rintro H1 ⟨sm, hL⟩
            refine ⟨D, _, rfl, SqL.of hL, ?_⟩
            have e2 : ((x.cps.toList.take x.cps.size).map fun c => decide (c ∈ (WSG).cps.toList)).all id = allIn WSG x := by
              rw [List.take_of_length_le (by rw [Array.length_toList]; exact Nat.le_refl _), List.all_map]
              rfl
            rw [e1] at q
            show Q (.bl (((x.cps.toList.take x.cps.size).map fun c => decide (c ∈ (WSG).cps.toList)).all id)) H1
            rw [e2]
            exact q _ sm
      · refine ⟨_, rfl, ?_⟩
        refine iteT ?_
        have c1' : decide ((1 : Int) ≤ (x.length : Int)) = false := by
          cases z : decide ((1 : Int) ≤ (x.length : Int)) with
          | false => rfl
          | true => exact absurd z c1
        rw [c1', Bool.false_and, Bool.false_and] at e1
        rw [e1] at q
        exact q _ (Same.refl _)
def lawN (x : Str) : Option Nat := if 30 < x.length then none else lawNum x
def spNum : Sp := fun vs H Q _ => ∃ x : Str, vs = [.str x] ∧ x.length ≤ 640 ∧ ∀ H', Same H H' → Q (oV (lawN x)) H'
theorem ok_num {f : Addr} {fd : FuncData} (F : Fun K "_law_number" "_law_number" s_law_number f fd) (Y : Bn mg) : FnOk P w K mg base CX0 1 f fd ["_law_word"] spNum := by
  refine F.ok sc_law_number (fun vs H Q E h => ?_) (fun cdv A outer s H vs Q E hr h => ?_)
  · obtain ⟨x, rfl, _⟩ := h
    rfl
  · obtain ⟨x, rfl, l6, q⟩ := h
    refine ⟨_, (pss_cons (ps_if (PW.pt (pw_or (pt_cmpR op_eq (pv 0) pe_str (nomark _)) (pw_or (pt_cmpR op_gt (pe_callB call_len_str (by rfl) Y.len PySem.boot_len (pa_cons (pv 0) pa_nil)) pe_int (nomark _)) (pw_or1 (pt_not (pt_val (pe_callB (cr_all rfl) (by rfl) Y.all (by decide +kernel) (pa_cons (pe_lc (own := [("_law_sign", 1)]) (g := gName 1) (tt := tYes) rfl sc_law_number.nd (pi_str (pv 0)) (blkOk_by (N := ["_law_word", "_law_sign"]) (sc := defScope s_law_number) (by decide +kernel)) (fun _ _ _ _ _ => (pg_name (i := 1) sc_law_number.nd rfl (Or.inl rfl))) (fun _ _ _ _ _ => pts_nil) (fun _ _ _ _ _ => (pe_chain op_le_str op_le_str pe_str (pv 1) pe_str))) pa_nil))))))))
 (pss_one (ps_ret pe_non))
 pss_nil)
 (pss_one (ps_ret (pe_ifExp (PW.pt (pw_and (pt_cmpR op_eq (pe_ix ix_str (pv 0) pe_int (fun _ _ => rfl)) pe_str (nomark _)) (pw_and1 (pt_cmpR op_ne (pv 0) pe_str (nomark _))))) pe_non (pe_callTy call_int_str (by rfl) Y.int (by decide +kernel) (pa_cons (pv 0) pa_nil)))))), ?_⟩
    have none_ : ∀ H1, Same H H1 → (TL.tl x = [] ∨ 30 < x.length ∨ ¬ (TL.tl x).all dig = true ∨ ((TL.tl x).head? = some 48 ∧ 1 < x.length)) → Q .non H1 := fun H1 s1 z => by
      have e : lawN x = none := by
        unfold lawN
        split
        · rfl
        · next n30 =>
          unfold lawNum
          rw [if_pos]
          rcases z with z | z | z | z
          · exact .inl z
          · exact absurd z n30
          · exact .inr (.inl z)
          · exact .inr (.inr z)
      rw [e] at q
      exact q _ s1
    refine ⟨_, rfl, rfl, _, rfl, ite2 (fun c1 => ?_) (fun c1 => ?_)⟩
    · have z : x = "" := by
        have := of_decide_eq_true c1
        injection this
      exact iteT (none_ _ (Same.refl _) (.inl (by rw [z]; decide +kernel)))
    have ne : TL.tl x ≠ [] := fun z => c1 (decide_eq_true (by rw [show x = Str.empty from TL.ext_tl z]; decide +kernel))
    refine ⟨_, rfl, _, rfl, le200 (by omega), _, _, rfl, rfl, _, rfl, ite2 (fun c2 => ?_) (fun c2 => ?_)⟩
    · have := of_decide_eq_true c2
      exact iteT (none_ _ (Same.refl _) (.inr (.inl (by omega))))
    have n30 : ¬ 30 < x.length := fun z => c2 (decide_eq_true (by omega))
    refine ⟨_, rfl, x, rfl, fun D hD => ?_⟩
    refine lc_it (walk_str (z := x)) (fun i H' => Same H H' ∧ H' D = some (.lst (((x.cps.toList.take i).map dig).map V.bl))) ⟨same_upd hD, upd_same⟩ (fun _ _ _ _ => trivial) ?_ ?_
    · rintro i y H1 H2 hi ⟨s1, hL⟩ ⟨rfl, c, hc, rfl⟩
      have hc' : x.cps.toList[i]? = some c := by rw [Array.getElem?_toList]; exact hc
      have fin : ∀ b : Bool, dig c = b → ∃ zs, H2 D = some (.lst zs) ∧ zs.length < sizeLine ∧ Same H (upd H2 D (.lst (zs ++ [V.bl b]))) ∧ (upd H2 D (.lst (zs ++ [V.bl b]))) D = some (.lst (((x.cps.toList.take (i + 1)).map dig).map V.bl)) := fun b hb => by
        refine ⟨_, hL, ?_, same_upd2 s1 hD, ?_⟩
        · rw [List.length_map, List.length_map, List.length_take]
          have lc : x.cps.toList.length = x.length := Array.length_toList
          exact small200 (by omega)
        · rw [upd_same, take_succ_all hc', List.map_append, ← hb]
          rfl
      have lm := dig_b c
      refine ⟨rfl, ?_⟩
      dsimp only [tYes]
      refine iteT ?_
      refine ⟨_, rfl, _, _, rfl, rfl, _, rfl, ite2 (fun c5 => ?_) (fun c5 => ?_)⟩
      · have c5' := (ge_sign 48 "0" (by decide +kernel) c).symm.trans c5
        rw [c5', Bool.true_and] at lm
        refine ⟨_, _, rfl, rfl, ?_⟩
        exact fin _ (lm.trans (le_sign 57 "9" (by decide +kernel) c).symm)
      · have c5' : decide (48 ≤ c) = false := (ge_sign 48 "0" (by decide +kernel) c).symm.trans (Bool.eq_false_iff.mpr c5)
        rw [c5', Bool.false_and] at lm
        exact fin false lm
    rintro H1 ⟨s1, hL⟩
    rw [show x.cps.toList.take x.cps.size = TL.tl x from List.take_of_length_le (by rw [Array.length_toList]; exact Nat.le_refl _)] at hL
    refine ⟨D, _, rfl, SqL.of hL, _, rfl, ?_⟩
    rw [List.all_map]
    have eA : (TL.tl x).all (id ∘ dig) = (TL.tl x).all dig := rfl
    rw [eA]
    cases al : (TL.tl x).all dig with
    | false => exact iteT (none_ _ s1 (.inr (.inr (.inl (by rw [al]; decide)))))
    | true =>
      refine iteF ?_
      obtain ⟨c0, r, e0⟩ : ∃ c r, TL.tl x = c :: r := by
        cases e : TL.tl x with
        | nil => exact absurd e ne
        | cons c r => exact ⟨c, r, rfl⟩
      have xl : x.length = r.length + 1 := by rw [TL.len_tl, e0]; rfl
      have fin : ¬ ((TL.tl x).head? = some 48 ∧ 1 < x.length) → Q (.int ((NumText.digitsVal (TL.tl x) : Nat) : Int)) H1 ∧ PySem.intText? x = some (((NumText.digitsVal (TL.tl x) : Nat)) : Int) := fun z => by
        have e : lawN x = some (NumText.digitsVal (TL.tl x)) := by
          unfold lawN lawNum
          rw [if_neg n30, if_neg]
          rintro (a | a | a)
          · exact ne a
          · exact a al
          · exact z a
        rw [e] at q
        exact ⟨q _ s1, intText_digits (all_dig al) ne (by omega)⟩
      refine ⟨_, rfl, x, 0, c0, rfl, rfl, le200 (by omega), atI_nat (j := 0) (by show (TL.tl x)[0]? = some c0; rw [e0]; rfl), rfl, _, rfl, ite2 (fun c3 => ?_) (fun c3 => ?_)⟩
      · have z : c0 = 48 := by
          have := of_decide_eq_true c3
          injection this with this
          have := congrArg TL.tl this
          have e48 : TL.tl ("0" : Str) = [48] := by decide +kernel
          rw [e48] at this
          have t : [c0] = [48] := this
          injection t
        refine ⟨_, rfl, rfl, _, rfl, ?_⟩
        by_cases lx : 1 < x.length
        · rw [decide_eq_false (show ¬ V.str x = V.str "0" from fun y => by
            injection y with y
            rw [y] at lx
            exact absurd lx (by decide +kernel))]
          exact iteT (none_ _ s1 (.inr (.inr (.inr ⟨by rw [e0, z]; rfl, lx⟩))))
        · have e1 : x = "0" := TL.ext_tl (by
            rw [e0, z, List.eq_nil_of_length_eq_zero (show r.length = 0 by omega)]
            decide +kernel)
          rw [decide_eq_true (show V.str x = V.str "0" by rw [e1])]
          obtain ⟨qq, it⟩ := fin fun y => lx y.2
          exact iteF ⟨_, rfl, x, _, rfl, it, l6, qq⟩
      · refine iteF ?_
        obtain ⟨qq, it⟩ := fin fun z => by
          rw [e0] at z
          have z1 := z.1
          injection z1 with z1
          exact c3 (decide_eq_true (by rw [z1]; decide +kernel))
        exact ⟨_, rfl, x, _, rfl, it, l6, qq⟩
end
end My

namespace My
open PySem PySem.Spec PyProof.Rows L2 Gy Xl Xs Xt
section
variable {P : Program} {w : World} {K : PySem.W.Frag} {mg : Str → Option Value} {base : Heap} {H : Hp}
def spIsRl (K : PySem.W.Frag) : Sp := fun vs H Q _ => ∃ (a : Addr) (xs : List V) (ds : List PyData), vs = [.ref a] ∧ Tz H a xs ∧ Dns K H xs ds ∧ smls ds = true ∧ ∀ H', Same H H' → Q (.bl (isRel (.tuple ds))) H'
theorem ok_isRl {f : Addr} {fd : FuncData} (F : Fun K "_law_is_relink" "_law_is_relink" s_law_is_relink f fd) (Y : Bn mg) (G_law_is_name : Fk P w K mg base CX0 1 "_law_is_name" ["_law_value"] (spIsName K)) : FnOk P w K mg base CX0 2 f fd ["_law_parts"] (spIsRl K) := by
  refine F.ok sc_law_is_relink (fun vs H Q E h => ?_) (fun cdv A outer s H vs Q E hr h => ?_)
  · obtain ⟨a, xs, ds, rfl, _⟩ := h
    rfl
  · obtain ⟨a, xs, ds, rfl, ha, hd, sms, q⟩ := h
    refine ⟨_, (pss_cons (ps_if (PW.pt (pw_or (pt_cmpR op_ne (pe_callB call_len_seq (by rfl) Y.len PySem.boot_len (pa_cons (pv 0) pa_nil)) pe_int (nomark _)) (pw_or (pt_not (pt_val (pe_callB call_isi (by rfl) Y.isinstance (by decide +kernel) (pa_cons (pe_ix ix_tup (pv 0) pe_int (fun _ _ => rfl)) (pa_cons (pe_bltn (v := .ty "tuple") (by rfl) Y.tuple (by decide +kernel) rfl) pa_nil))))) (pw_or1 (pt_cmpR op_lt (pe_callB call_len_seq (by rfl) Y.len PySem.boot_len (pa_cons (pe_ix ix_tup (pv 0) pe_int (fun _ _ => rfl)) pa_nil)) pe_int (nomark _))))))
 (pss_one (ps_ret pe_bl))
 pss_nil)
 (pss_cons (ps_asg (pv 0) (pg_tup (by rfl) (pgs_cons (pg_name (i := 1) sc_law_is_relink.nd rfl (Or.inl rfl)) (pgs_cons (pg_name (i := 2) sc_law_is_relink.nd rfl (Or.inl rfl)) pgs_nil))))
 (pss_cons (ps_if (PW.pt (pw_or (pt_not (pt_val (pe_callB (cr_all rfl) (by rfl) Y.all (by decide +kernel) (pa_cons (pe_lc (own := [("_law_name", 3)]) (g := gName 3) (tt := tYes) rfl sc_law_is_relink.nd (pi_tup (pv 1)) (blkOk_by (N := ["_law_parts", "_law_way", "_law_at", "_law_name"]) (sc := defScope s_law_is_relink) (by decide +kernel)) (fun _ _ _ _ _ => (pg_name (i := 3) sc_law_is_relink.nd rfl (Or.inl rfl))) (fun _ _ _ _ _ => pts_nil) (fun _ _ _ _ _ => (pe_callF G_law_is_name (hr.mono (by decide)) (by rfl) pass0 (pa_cons (pv 3) pa_nil)))) pa_nil)))) (pw_or1 (pt_cmpR op_ne (pe_lenTexts (by rfl) Y.len (by rfl) Y.set (pv 1)) (pe_callB call_len_seq (by rfl) Y.len PySem.boot_len (pa_cons (pv 1) pa_nil)) (nomark _)))))
 (pss_one (ps_ret pe_bl))
 pss_nil)
 (pss_one (ps_ret (pe_and (pe_callB call_isi (by rfl) Y.isinstance (by decide +kernel) (pa_cons (pv 2) (pa_cons (pe_bltn (v := .ty "int") (by rfl) Y.int (by decide +kernel) rfl) pa_nil))) (pe_and (pe_not (pe_callB call_isi (by rfl) Y.isinstance (by decide +kernel) (pa_cons (pv 2) (pa_cons (pe_bltn (v := .ty "bool") (by rfl) Y.bool (by decide +kernel) rfl) pa_nil)))) (pe_one (pe_chain op_le op_le pe_int (pv 2) (pe_op op_sub (pe_callB call_len_seq (by rfl) Y.len PySem.boot_len (pa_cons (pv 1) pa_nil)) pe_int)))))))))), ?_⟩
    have sm2 : True ∧ smls ds = true := ⟨trivial, sms⟩
    have el := Dns.len hd
    refine ⟨_, rfl, a, _, rfl, .inr (ha.sq), rfl, _, rfl, ite2 (fun c => ?_) (fun c => ?_)⟩
    · have c' : ds.length ≠ 2 := fun z => by
        rw [decide_eq_true (show V.int (xs.length : Int) = V.int 2 by rw [el, z]; rfl)] at c
        cases c
      rw [isRel_n c'] at q
      exact iteT (q _ (Same.refl _))
    have c' : xs.length = 2 := by
      have z : V.int (xs.length : Int) = V.int 2 := Decidable.of_not_not fun z => c (by rw [decide_eq_false z]; rfl)
      injection z with z
      omega
    obtain ⟨p, c0, rfl⟩ : ∃ p c0, xs = [p, c0] := by
      match xs, c' with
      | [p, c0], _ => exact ⟨p, c0, rfl⟩
    cases hd with
    | @cons _ _ dp _ h1 hd =>
    cases hd with
    | @cons _ _ dc _ h2 hd =>
    cases hd
    have m1 : sml dp = true := smls_mem sm2.2 List.mem_cons_self
    rw [isRel_2] at q
    rcases tup_or h1 with ⟨b, ys, es, rfl, rfl, hb, hes⟩ | ⟨no, t, ty, kt⟩
    case' inr =>
      refine ⟨_, rfl, a, _, 0, p, rfl, rfl, ha.sq, atI_nat (j := 0) rfl, p, _, _, _, false, rfl, .ty "tuple", ty, kit_ty kt, _, rfl, iteT (iteT ?_)⟩
      have z : isPath dp = false := by
        cases dp with
        | tuple es => exact absurd rfl (no es)
        | _ => rfl
      rw [z, Bool.false_and] at q
      exact q _ (Same.refl _)
    refine ⟨_, rfl, a, _, 0, .ref b, rfl, rfl, ha.sq, atI_nat (j := 0) rfl, _, _, _, _, true, rfl, .ty "tuple", hb.ty, kit_ty (by decide +kernel), _, rfl, iteF ?_⟩
    have sm3 : es.length ≤ 660 ∧ smls es = true := by simpa only [sml, Bool.and_eq_true, decide_eq_true_eq] using m1
    have el2 := Dns.len hes
    have q : ∀ H', Same H H' → Q (.bl (isPath (.tuple es) && isIdx ((es.length : Int) - 1) dc)) H' := q
    rw [isPath_t] at q
    refine ⟨_, rfl, a, _, 0, .ref b, rfl, rfl, ha.sq, atI_nat (j := 0) rfl, b, _, rfl, .inr hb.sq, _, 3, rfl, rfl, _, rfl, ite2 (fun c => ?_) (fun c => ?_)⟩
    · have c' := of_decide_eq_true c
      rw [decide_eq_false (show ¬ 3 ≤ es.length by omega), Bool.false_and, Bool.false_and] at q
      exact q _ (Same.refl _)
    have c3 : ¬ (ys.length : Int) < 3 := fun z => c (decide_eq_true z)
    refine ⟨_, rfl, a, _, rfl, ha.sq, rfl, _, _, rfl, _, _, rfl, rfl, ?_⟩
    rw [decide_eq_true (show 3 ≤ es.length by omega), Bool.true_and] at q
    refine ⟨_, rfl, b, rfl, ⟨_, hb.sq⟩, fun D hD => ?_⟩
    refine lc_it (walk_tup (K := K) (a := b) (xs := ys)) (fun i H' => Same H H' ∧ H' D = some (.lst (((es.take i).map isHost).map V.bl))) ⟨same_upd hD, upd_same⟩ (fun i H' _ h => (hb.same h.1).sq) ?_ ?_
    · rintro i y H1 H2 hi ⟨s1, hL⟩ ⟨rfl, hy⟩
      obtain ⟨di, hdi, dni⟩ := Dns.get hes hy
      refine ⟨rfl, ?_⟩
      dsimp only [tYes]
      refine iteT ?_
      refine ⟨_, rfl, y, di, rfl, dni.same s1, smls_mem sm3.2 (List.mem_of_getElem? hdi), fun H3 s3 => ?_⟩
      refine ⟨_, s3 _ _ hL, ?_, same_upd2 (s1.trans s3) hD, ?_⟩
      · rw [List.length_map, List.length_map, List.length_take]
        exact small200 (by omega)
      · rw [upd_same, List.take_add_one, hdi, List.map_append, List.map_append]
        rfl
    · rintro H1 ⟨s1, hL⟩
      rw [el2, List.take_of_length_le (Nat.le_refl _)] at hL
      have hb1 := hb.same s1
      refine ⟨D, _, rfl, SqL.of hL, _, rfl, ?_⟩
      cases c1 : es.all isHost with
      | false =>
        rw [c1, Bool.false_and, Bool.false_and] at q
        have z : id (((es.map isHost).all id)) = false := by
          rw [List.all_map]
          exact c1
        rw [show ((es.map isHost).all id) = false from z]
        exact iteT (iteT (q _ s1))
      | true =>
        rw [c1, Bool.true_and] at q
        have z : ((es.map isHost).all id) = true := by
          rw [List.all_map]
          exact c1
        rw [z]
        refine iteF ?_
        have e := txts_all c1
        have ex : ys = (txts es).map V.str := by
          rw [e] at hes
          exact Dns.txts hes
        have el3 : ys.length = (txts es).length := by rw [ex, List.length_map]
        refine ⟨_, rfl, b, txts es, rfl, (by rw [← ex]; exact hb1.sq), (by omega), _, rfl, b, _, rfl, .inr (hb1.sq), rfl, _, rfl, ?_⟩
        have zz : decide ((txts es).Nodup) = decide (V.int ((numd (txts es) (txts es).length : Nat) : Int) = V.int (ys.length : Int)) := by
          congr 1
          have nf := numd_full (txts es) (txts es).length (Nat.le_refl _)
          rw [List.take_of_length_le (Nat.le_refl _)] at nf
          rw [← nf, eq_iff_iff, el3]
          refine ⟨fun z => by rw [z], fun z => ?_⟩
          injection z with z
          omega
        rw [zz] at q
        refine ite2 (fun c4 => ?_) (fun c4 => ?_)
        · have c5 : decide (V.int ((numd (txts es) (txts es).length : Nat) : Int) = V.int (ys.length : Int)) = false := by
            cases z9 : decide (V.int ((numd (txts es) (txts es).length : Nat) : Int) = V.int (ys.length : Int)) with
            | false => rfl
            | true => rw [z9] at c4; cases c4
          rw [c5, Bool.false_and] at q
          exact q _ s1
        have c5 : decide (V.int ((numd (txts es) (txts es).length : Nat) : Int) = V.int (ys.length : Int)) = true := by
          cases z9 : decide (V.int ((numd (txts es) (txts es).length : Nat) : Int) = V.int (ys.length : Int)) with
          | true => rfl
          | false => exact absurd (by rw [z9]; rfl) c4
        rw [c5, Bool.true_and] at q
        have h2' := h2.same s1
        rcases int_or h2' with ⟨i, rfl, rfl⟩ | ⟨bb, rfl, rfl⟩ | ⟨no, t, ty, kt⟩
        · rw [isIdx_i] at q
          refine ⟨_, rfl, _, _, _, _, true, rfl, .ty "int", .base (.int i), kit_ty (by decide +kernel), _, rfl, iteT ?_⟩
          refine ⟨_, rfl, _, _, _, _, false, rfl, .ty "bool", .base (.int i), kit_ty (by decide +kernel), _, rfl, _, rfl, iteT ?_⟩
          refine ⟨_, rfl, _, _, rfl, rfl, _, rfl, ite2 (fun c6 => ?_) (fun c6 => ?_)⟩
          · rw [c6, Bool.true_and] at q
            refine ⟨_, rfl, b, _, rfl, .inr hb1.sq, _, _, rfl, rfl, _, _, rfl, rfl, ?_⟩
            have ee : decide (i < (es.length : Int) - 1) = decide (i ≤ (ys.length : Int) - 2) := by
              congr 1
              rw [eq_iff_iff]
              omega
            rw [ee] at q
            exact q _ s1
          · rw [Bool.eq_false_iff.mpr c6, Bool.false_and] at q
            exact q _ s1
        · refine ⟨_, rfl, _, _, _, _, true, rfl, .ty "int", .base (.bl bb), kit_ty (by decide +kernel), _, rfl, iteT ?_⟩
          refine ⟨_, rfl, _, _, _, _, true, rfl, .ty "bool", .base (.bl bb), kit_ty (by decide +kernel), _, rfl, _, rfl, iteF ?_⟩
          exact q _ s1
        · refine ⟨_, rfl, _, _, _, _, false, rfl, .ty "int", ty, kit_ty kt, _, rfl, iteF ?_⟩
          have z : isIdx ((es.length : Int) - 1) dc = false := by
            cases dc with
            | int i => exact absurd rfl (no i)
            | _ => rfl
          rw [z] at q
          exact q _ s1
def sz3 (k : Str) : Option Nat := if k = "deliver" then some 3 else if k = "add" then some 3 else if k = "remove" then some 2 else none
theorem evSz_3 {k : Str} (h1 : ¬ k = "ask") (h2 : ¬ k = "write") : evSz k = sz3 k := by
  unfold evSz sz3
  rw [if_neg h2, if_neg h1]
def KV3 : List (Key × V) := [(.inr "deliver", .int 3), (.inr "add", .int 3), (.inr "remove", .int 2)]
theorem merge3 : mergeK [] KV3 = KV3 := by
  unfold KV3 mergeK putK
  rfl
theorem val3 (k : Str) : valV KV3 (.inr k) = (sz3 k).map fun n => V.int (n : Int) := by
  unfold valV KV3 sz3
  simp only [List.find?_cons, Sum.inr.injEq]
  by_cases c1 : k = "deliver"
  · subst c1
    rfl
  · rw [decide_eq_false (fun z => c1 z.symm), if_neg c1]
    by_cases c2 : k = "add"
    · subst c2
      rfl
    · rw [decide_eq_false (fun z => c2 z.symm), if_neg c2]
      by_cases c3 : k = "remove"
      · subst c3
        rfl
      · rw [decide_eq_false (fun z => c3 z.symm), if_neg c3]
        rfl
def spIsEv (K : PySem.W.Frag) : Sp := fun vs H Q _ => ∃ (v : V) (d : PyData), vs = [v] ∧ Dn K H v d ∧ sml d = true ∧ ∀ H', Same H H' → Q (.bl (isEv d)) H'
theorem ok_isEv {f : Addr} {fd : FuncData} (F : Fun K "_law_is_event" "_law_is_event" s_law_is_event f fd) (Y : Bn mg) (G_law_is_name : Fk P w K mg base CX0 1 "_law_is_name" ["_law_value"] (spIsName K)) (G_law_is_word : Fk P w K mg base CX0 1 "_law_is_word" ["_law_value"] (spIsWord K)) (G_law_is_relink : Fk P w K mg base CX0 2 "_law_is_relink" ["_law_parts"] (spIsRl K)) :
    FnOk P w K mg base CX0 3 f fd ["_law_value"] (spIsEv K) := by
  refine F.ok sc_law_is_event (fun vs H Q E h => ?_) (fun cdv A outer s H vs Q E hr h => ?_)
  · obtain ⟨v, d, rfl, _⟩ := h
    rfl
  · obtain ⟨v, d, rfl, dn, sm, q⟩ := h
    have hu0 := Nat.lt_of_le_of_lt (Nat.le_add_right _ 64) hr.units
    have hu1 := Nat.lt_of_le_of_lt (Nat.add_le_add_left (show 1 ≤ 64 by decide) _) hr.units
    refine ⟨_, (pss_cons (ps_if (PW.pt (pw_or (pt_not (pt_val (pe_callB call_isi (by rfl) Y.isinstance (by decide +kernel) (pa_cons (pv 0) (pa_cons (pe_bltn (v := .ty "tuple") (by rfl) Y.tuple (by decide +kernel) rfl) pa_nil))))) (pw_or (pt_cmpR (op_eqEmT hu0) (pv 0) (pe_tupZ pa_nil) (nomark _)) (pw_or1 (pt_not (pt_val (pe_callB call_isi (by rfl) Y.isinstance (by decide +kernel) (pa_cons (pe_ix ix_tup (pv 0) pe_int (fun _ _ => rfl)) (pa_cons (pe_bltn (v := .ty "str") (by rfl) Y.str (by decide +kernel) rfl) pa_nil)))))))))
 (pss_one (ps_ret pe_bl))
 pss_nil)
 (pss_cons (ps_if (pt_cmpR op_eq (pe_ix ix_tup (pv 0) pe_int (fun _ _ => rfl)) pe_str (nomark _))
 (pss_one (ps_ret (pe_callF G_law_is_relink (hr.mono (by decide)) (by rfl) pass0 (pa_cons (pe_slice sl_cutA (pv 0) (po_some pe_int) po_none) pa_nil))))
 pss_nil)
 (pss_cons (ps_if (pt_cmpR op_eq (pe_ix ix_tup (pv 0) pe_int (fun _ _ => rfl)) pe_str (nomark _))
 (pss_one (ps_ret (pe_and (pe_cmpR op_eq (pe_callB call_len_seq (by rfl) Y.len PySem.boot_len (pa_cons (pv 0) pa_nil)) pe_int (nomark _)) (pe_and (pe_callF G_law_is_name (hr.mono (by decide)) (by rfl) pass0 (pa_cons (pe_ix ix_tup (pv 0) pe_int (fun _ _ => rfl)) pa_nil)) (pe_one (pe_callF G_law_is_word (hr.mono (by decide)) (by rfl) pass0 (pa_cons (pe_ix ix_tup (pv 0) pe_int (fun _ _ => rfl)) pa_nil)))))))
 pss_nil)
 (pss_cons (ps_set (i := 1) sc_law_is_event.nd rfl (.inl rfl) (pe_disp (pps_cons pe_str pe_int (pps_cons pe_str pe_int (pps_cons pe_str pe_int pps_nil))) (by rfl) (by rfl) (fun z => by cases z) (by decide)))
 (pss_one (ps_ret (pe_and (pe_cmp (pc_din hu1 (pe_ix ix_tup (pv 0) pe_int (fun _ _ => rfl)) (pv 1)) rfl) (pe_and (pe_cmpR op_eq (pe_callB call_len_seq (by rfl) Y.len PySem.boot_len (pa_cons (pv 0) pa_nil)) (pe_dget hu1 (pv 1) (pe_ix ix_tup (pv 0) pe_int (fun _ _ => rfl)) (fun _ _ => rfl)) (nomark _)) (pe_one (pe_callB (cr_all rfl) (by rfl) Y.all (by decide +kernel) (pa_cons (pe_lc (own := [("_law_part", 2)]) (g := gName 2) (tt := tYes) rfl sc_law_is_event.nd (pi_tup (pe_slice sl_cutA (pv 0) (po_some pe_int) po_none)) (blkOk_by (N := ["_law_value", "_law_sizes", "_law_part"]) (sc := defScope s_law_is_event) (by decide +kernel)) (fun _ _ _ _ _ => (pg_name (i := 2) sc_law_is_event.nd rfl (Or.inl rfl))) (fun _ _ _ _ _ => pts_nil) (fun _ _ _ _ _ => (pe_callF G_law_is_name (hr.mono (by decide)) (by rfl) pass0 (pa_cons (pv 2) pa_nil)))) pa_nil))))))))))), ?_⟩
    rcases tup_or dn with ⟨a, xs, ds, rfl, rfl, ha, hd⟩ | ⟨no, t, ty, kt⟩
    case' inr =>
      refine ⟨v, rfl, v, _, _, _, false, rfl, .ty "tuple", ty, kit_ty kt, _, rfl, ?_⟩
      refine iteT (iteT ?_)
      have z : isEv d = false := by
        cases d with
        | tuple ds => exact absurd rfl (no ds)
        | _ => rfl
      rw [z] at q
      exact q _ (Same.refl _)
    refine ⟨_, rfl, _, _, _, _, true, rfl, .ty "tuple", ha.ty, kit_ty (by decide +kernel), _, rfl, iteF ?_⟩
    refine ⟨_, rfl, (by show 0 ≤ sizeLine; decide), fun t0 o0 n0 s0 z0 => ?_⟩
    refine ⟨a, t0, _, rfl, rfl, (ha.same s0).sq, z0.sq, _, rfl, ?_⟩
    generalize upd _ t0 o0 = H0 at s0 z0 ⊢
    cases hd with
    | nil => exact iteT (iteT (q _ s0))
    | @cons x xs d0 ds h0 hd =>
    refine iteF ?_
    have ha0 := ha.same s0
    have el := Dns.len hd
    have sm2 : (PyData.str "" :: ds).length ≤ 660 ∧ sml d0 = true ∧ smls ds = true := by
      have z : (decide ((d0 :: ds).length ≤ 660) && (sml d0 && smls ds)) = true := sm
      simp only [Bool.and_eq_true, decide_eq_true_eq] at z
      exact ⟨z.1, z.2.1, z.2.2⟩
    refine ⟨_, rfl, a, _, 0, x, rfl, rfl, ha0.sq, atI_nat (j := 0) rfl, ?_⟩
    rcases str_or (h0.same s0) with ⟨k, rfl, rfl⟩ | ⟨no, t, ty, kt⟩
    case' inr =>
      refine ⟨x, _, _, _, false, rfl, .ty "str", ty, kit_ty kt, _, rfl, iteT ?_⟩
      have z : isEv (.tuple (d0 :: ds)) = false := by
        cases d0 with
        | str k => exact absurd rfl (no k)
        | _ => rfl
      rw [z] at q
      exact q _ s0
    refine ⟨_, _, _, _, true, rfl, .ty "str", .base (.str k), kit_ty (by decide +kernel), _, rfl, iteF ?_⟩
    rw [isEv_t] at q
    have hd0 := hd.same s0
    refine ⟨_, rfl, a, _, 0, _, rfl, rfl, ha0.sq, atI_nat (j := 0) rfl, rfl, _, rfl, ite2 (fun c => ?_) (fun c => ?_)⟩
    · have c' : k = "ask" := by
        have z := of_decide_eq_true c
        injection z
      subst c'
      rw [if_pos rfl] at q
      have e3 : evSz "ask" = some 3 := by decide +kernel
      have z : (decide (evSz "ask" = some (ds.length + 1)) && isRel (.tuple ds)) = isRel (.tuple ds) := by
        by_cases l2 : ds.length = 2
        · rw [decide_eq_true (by rw [e3, l2]), Bool.true_and]
        · rw [isRel_n l2, Bool.and_false]
      rw [z] at q
      refine ⟨_, rfl, 1, rfl, a, _, rfl, ha0, ?_⟩
      rw [cut1]
      refine ⟨fun z => ?_, fun p o np st tp => ?_⟩
      · have z := congrArg List.length z
        rw [List.length_cons] at z
        omega
      · exact ⟨p, _, _, rfl, tp, hd0.same st, sm2.2.2, fun H2 s2 => q _ (s0.trans (st.trans s2))⟩
    have c1 : ¬ k = "ask" := fun z => c (decide_eq_true (by rw [z]))
    rw [if_neg c1] at q
    refine ⟨_, rfl, a, _, 0, _, rfl, rfl, ha0.sq, atI_nat (j := 0) rfl, rfl, _, rfl, ite2 (fun c => ?_) (fun c => ?_)⟩
    · have c' : k = "write" := by
        have z := of_decide_eq_true c
        injection z
      subst c'
      rw [if_pos rfl] at q
      have e3 : evSz "write" = some 3 := by decide +kernel
      refine ⟨_, rfl, a, _, rfl, .inr ha0.sq, rfl, _, rfl, ?_⟩
      by_cases l2 : ds.length = 2
      · rw [decide_eq_true (show V.int ((V.str "write" :: xs).length : Int) = V.int 3 by rw [List.length_cons, el, l2]; rfl)]
        refine iteT ?_
        rw [decide_eq_true (by rw [e3, l2]), Bool.true_and] at q
        match xs, ds, hd0, l2, sm2.2.2, q with
        | _, [dw, dx], .cons hw (.cons hx .nil), _, sms, q =>
          have mw : sml dw = true := smls_mem sms List.mem_cons_self
          have mx : sml dx = true := smls_mem sms (List.mem_cons_of_mem _ List.mem_cons_self)
          have e : wr2 [dw, dx] = (isHost dw && isWord dx) := rfl
          rw [e] at q
          refine ⟨_, rfl, a, _, 1, _, rfl, rfl, ha0.sq, atI_nat (j := 1) rfl, _, dw, rfl, hw, mw, fun H2 s2 => ⟨_, rfl, ?_⟩⟩
          cases ch : isHost dw with
          | false =>
            rw [ch, Bool.false_and] at q
            exact iteF (q _ (s0.trans s2))
          | true =>
            rw [ch, Bool.true_and] at q
            refine iteT ?_
            exact ⟨_, rfl, a, _, 2, _, rfl, rfl, (ha0.same s2).sq, atI_nat (j := 2) rfl, _, dx, rfl, hx.same s2, mx, fun H3 s3 => q _ (s0.trans (s2.trans s3))⟩
      · rw [decide_eq_false (show ¬ V.int ((V.str "write" :: xs).length : Int) = V.int 3 from fun z => by injection z with z; rw [List.length_cons] at z; omega)]
        rw [decide_eq_false (by rw [e3]; intro z; injection z with z; omega), Bool.false_and] at q
        exact iteF (q _ s0)
    have c2 : ¬ k = "write" := fun z => c (decide_eq_true (by rw [z]))
    rw [if_neg c2, evSz_3 c1 c2] at q
    refine fun p np => ⟨upd_same, KV3, rfl, (by decide), ?_⟩
    have s1 : Same H0 (upd (upd H0 p (.dK [])) p (.dK (mergeK [] KV3))) := same_upd2 (same_upd np) np
    have g1 : (upd (upd H0 p (.dK [])) p (.dK (mergeK [] KV3))) p = some (.dK KV3) := by rw [upd_same, merge3]
    generalize upd (upd H0 p (.dK [])) p (.dK (mergeK [] KV3)) = H1 at s1 g1 ⊢
    have ha1 := ha0.same s1
    have hd1 := hd0.same s1
    have dg := DGet.k (k := Sum.inr k) g1
    rw [val3] at dg
    refine ⟨_, rfl, a, _, 0, _, rfl, rfl, ha1.sq, atI_nat (j := 0) rfl, _, rfl, p, _, rfl, dg, _, rfl, ?_⟩
    cases cs : sz3 k with
    | none =>
      rw [cs, decide_eq_false (fun z => nomatch z), Bool.false_and] at q
      exact iteF (q _ (s0.trans s1))
    | some n =>
      rw [cs] at q dg
      refine iteT ?_
      refine ⟨_, rfl, a, _, rfl, .inr ha1.sq, _, rfl, _, rfl, a, _, 0, _, rfl, rfl, ha1.sq, atI_nat (j := 0) rfl, p, _, rfl, dg, rfl, _, rfl, ?_⟩
      have z : decide (V.int ((V.str k :: xs).length : Int) = V.int (n : Int)) = decide (some n = some (ds.length + 1)) := by
        congr 1
        rw [eq_iff_iff, List.length_cons, el]
        constructor
        · intro h
          injection h with h
          congr 1
          omega
        · intro h
          injection h with h
          rw [h]
      rw [z]
      cases cz : decide (some n = some (ds.length + 1)) with
      | false =>
        rw [cz, Bool.false_and] at q
        exact iteF (q _ (s0.trans s1))
      | true =>
        rw [cz, Bool.true_and] at q
        refine iteT ?_
        refine ⟨_, rfl, 1, rfl, a, _, rfl, ha1, ?_⟩
        rw [cut1]
        refine ⟨fun z => ?_, fun p2 o2 np2 st tp => ?_⟩
        · have z := congrArg List.length z
          rw [List.length_cons] at z
          omega
        generalize upd _ p2 o2 = H2 at st tp ⊢
        have hd2 := hd1.same st
        refine ⟨p2, rfl, ⟨_, tp.sq⟩, fun D hD => ?_⟩
        refine lc_it (walk_tup (K := K) (a := p2) (xs := xs)) (fun i H' => Same H2 H' ∧ H' D = some (.lst (((ds.take i).map isHost).map V.bl))) ⟨same_upd hD, upd_same⟩ (fun i H' _ h => (tp.same h.1).sq) ?_ ?_
        · rintro i y H3 H4 hi ⟨s3, hL⟩ ⟨rfl, hy⟩
          obtain ⟨di, hdi, dni⟩ := Dns.get hd2 hy
          refine ⟨rfl, ?_⟩
          dsimp only [tYes]
          refine iteT ?_
          refine ⟨_, rfl, y, di, rfl, dni.same s3, smls_mem sm2.2.2 (List.mem_of_getElem? hdi), fun H5 s5 => ?_⟩
          refine ⟨_, s5 _ _ hL, ?_, same_upd2 (s3.trans s5) hD, ?_⟩
          · have l6 := sm2.1
            rw [List.length_cons] at l6
            rw [List.length_map, List.length_map, List.length_take]
            exact small200 (by omega)
          · rw [upd_same, List.take_add_one, hdi, List.map_append, List.map_append]
            rfl
        · rintro H3 ⟨s3, hL⟩
          rw [el, List.take_of_length_le (Nat.le_refl _)] at hL
          refine ⟨D, _, rfl, SqL.of hL, ?_⟩
          rw [List.all_map]
          exact q _ (s0.trans (s1.trans (st.trans s3)))
end
end My

namespace My
open PySem PySem.Spec PyProof.Rows L2 Gy Xl Xs Xt
theorem idx_same {x : Str} {m : Int} {n : Nat} (h : m.toNat = n) : isIdx m (oD (lawNum x)) = isIdx m (oD (pIdx x n)) ∧ (isIdx m (oD (lawNum x)) = true → oD (lawNum x) = oD (pIdx x n)) := by
  rw [pIdx_law]
  cases lawNum x with
  | none => exact ⟨rfl, fun _ => rfl⟩
  | some i =>
    show isIdx m (.int (i : Int)) = isIdx m (oD (if i < n then some i else none)) ∧ (isIdx m (.int (i : Int)) = true → PyData.int (i : Int) = oD (if i < n then some i else none))
    by_cases l : i < n
    · rw [if_pos l]
      exact ⟨rfl, fun _ => rfl⟩
    · rw [if_neg l]
      have z : isIdx m (.int (i : Int)) = false := by
        rw [isIdx_i, decide_eq_false (show ¬ (i : Int) < m by omega), Bool.and_false]
      rw [z]
      exact ⟨rfl, fun z => nomatch z⟩

theorem idx_sameN {x : Str} {m : Int} {n : Nat} (h : m.toNat = n) (n1 : n ≤ 1000) : isIdx m (oD (lawN x)) = isIdx m (oD (pIdx x n)) ∧ (isIdx m (oD (lawN x)) = true → oD (lawN x) = oD (pIdx x n)) := by
  unfold lawN
  split
  · next l =>
    have e : pIdx x n = none := by
      cases e : pIdx x n with
      | none => rfl
      | some i =>
        obtain ⟨e1, e2, _⟩ := pIdx_some e
        have := numS_len (i := i) (k := 4) (by decide) (by show i < 10000; omega)
        rw [e1] at this
        omega
    rw [e]
    exact ⟨rfl, fun _ => rfl⟩
  · exact idx_same h
/-- the data that the law reads from the parts of a text -/
def rdOf : List Str → PyData
  | [k, p, c] => if k = "ask" then .tuple [.str "ask", .tuple ((Txt.split p ",").map PyData.str), oD (lawN c)] else .tuple [.str k, .str p, .str c]
  | ps => if ps.head? = some "ask" then .none else .tuple (ps.map PyData.str)
theorem rdOf_n {ps : List Str} (h : ps.head? ≠ some "ask") : rdOf ps = .tuple (ps.map PyData.str) := by
  match ps, h with
  | [], _ => rfl
  | [a], h => exact if_neg h
  | [a, b], h => exact if_neg h
  | [a, b, c], h =>
    show (if a = "ask" then _ else PyData.tuple [.str a, .str b, .str c]) = _
    rw [if_neg (fun z => h (by rw [z]; rfl))]
    rfl
  | a :: b :: c :: d :: r, h => exact if_neg h
theorem rdOf_a {ps : List Str} (h : ps.head? = some "ask") (n : ps.length ≠ 3) : rdOf ps = .none := by
  match ps, h, n with
  | [a], h, _ => exact if_pos h
  | [a, b], h, _ => exact if_pos h
  | [a, b, c], _, n => exact absurd rfl n
  | a :: b :: c :: d :: r, h, _ => exact if_pos h
theorem rdOf_ask (p c : Str) : rdOf [("ask" : Str), p, c] = .tuple [.str "ask", .tuple ((Txt.split p ",").map PyData.str), oD (lawN c)] := by
  show (if ("ask" : Str) = "ask" then PyData.tuple [.str "ask", .tuple ((Txt.split p ",").map PyData.str), oD (lawN c)] else .tuple [.str "ask", .str p, .str c]) = _
  exact if_pos rfl
theorem ask3 (ds : List PyData) (e : PyData) : isEv (.tuple [.str "ask", .tuple ds, e]) = (isPath (.tuple ds) && isIdx ((ds.length : Int) - 1) e) := by
  rw [isEv_t, if_pos rfl, decide_eq_true (by show evSz "ask" = some 3; decide +kernel), Bool.true_and]
  rfl
theorem read_ev {ps : List Str} (h : ∀ p ∈ ps, p.length ≤ 640) : isEv (rdOf ps) = isEv (evOf ps) ∧ (isEv (rdOf ps) = true → rdOf ps = evOf ps) := by
  by_cases c1 : ps.head? = some "ask"
  · by_cases c2 : ps.length = 3
    · match ps, c1, c2, h with
      | [k, p, c], c1, _, h =>
        have e : k = "ask" := by injection c1
        subst e
        have lp := h p (by simp)
        have sl := PyProof.Rows.split_le p ","
        have s := idx_sameN (x := c) (m := ((((Txt.split p ",").map PyData.str).length : Int) - 1)) (n := (Txt.split p ",").length - 1) (by rw [List.length_map]; omega) (by omega)
        rw [rdOf_ask, evOf_ask, ask3, ask3, s.1]
        refine ⟨rfl, fun z => ?_⟩
        rw [Bool.and_eq_true] at z
        rw [s.2 (s.1.trans z.2)]
    · rw [rdOf_a c1 c2, evOf_n (.inl c2)]
      match ps, c1, c2 with
      | k :: r, c1, c2 =>
        have e : k = "ask" := by injection c1
        subst e
        have z : isEv (.tuple ((("ask" : Str) :: r).map PyData.str)) = false := by
          show isEv (.tuple (.str "ask" :: r.map PyData.str)) = false
          rw [isEv_t, decide_eq_false (fun y => ?_), Bool.false_and]
          have e3 : evSz "ask" = some 3 := by decide +kernel
          rw [e3] at y
          injection y with y
          rw [List.length_map] at y
          rw [List.length_cons] at c2
          omega
        rw [z]
        exact ⟨rfl, fun y => nomatch y⟩
  · rw [rdOf_n c1, evOf_n (.inr c1)]
    exact ⟨rfl, fun _ => rfl⟩
theorem sml_rd {ps : List Str} (l : ps.length ≤ 660) (h : ∀ p ∈ ps, p.length ≤ 640) : sml (rdOf ps) = true := by
  by_cases c1 : ps.head? = some "ask"
  · by_cases c2 : ps.length = 3
    · have sk := (sml_ev l h).2
      match ps, c1, c2, sk with
      | [k, p, c], c1, _, sk =>
        have e : k = "ask" := by injection c1
        subst e
        rw [rdOf_ask]
        exact sk _ p c rfl
    · rw [rdOf_a c1 c2]
      rfl
  · have z := (sml_ev l h).1
    rw [evOf_n (.inr c1)] at z
    rw [rdOf_n c1]
    exact z
section
variable {P : Program} {w : World} {K : PySem.W.Frag} {mg : Str → Option Value} {base : Heap} {H : Hp}
def spLT (K : PySem.W.Frag) : Sp := fun vs H Q _ => ∃ (v : V) (d : PyData), vs = [v] ∧ Dn K H v d ∧ sml d = true ∧ isEv d = true ∧ Q (.str (evText d)) H
theorem ok_lt {f : Addr} {fd : FuncData} (F : Fun K "_law_text" "_law_text" s_law_text f fd) (Y : Bn mg) : FnOk P w K mg base CX0 1 f fd ["_law_value"] (spLT K) := by
  refine F.ok sc_law_text (fun vs H Q E h => ?_) (fun cdv A outer s H vs Q E hr h => ?_)
  · obtain ⟨v, d, rfl, _⟩ := h
    rfl
  · obtain ⟨v, d, rfl, dn, sm, ii, q⟩ := h
    refine ⟨_, (pss_cons (ps_if (pt_cmpR op_eq (pe_ix ix_tup (pv 0) pe_int (fun _ _ => rfl)) pe_str (nomark _))
 (pss_one (ps_ret (pe_op op_add_str (pe_op op_add_str (pe_op op_add_str pe_str (pe_join pe_str (pe_ix ix_tup (pv 0) pe_int (fun _ _ => rfl)))) pe_str) (pe_callTy call_str_int (by rfl) Y.str (by decide +kernel) (pa_cons (pe_ix ix_tup (pv 0) pe_int (fun _ _ => rfl)) pa_nil)))))
 pss_nil)
 (pss_one (ps_ret (pe_join pe_str (pv 0))))), ?_⟩
    have ec := ev_cases ii
    cases ec with
    | ask xs c l3 cl ah =>
      have ln := ask_len sm
      cases dn with
      | @tup a vs _ ha hd =>
      cases hd with
      | @cons x0 _ _ _ h0 hd =>
      cases h0
      cases hd with
      | @cons x1 _ _ _ h1 hd =>
      cases hd with
      | @cons x2 _ _ _ h2 hd =>
      cases hd
      cases h2
      cases h1 with
      | @tup b ys _ hb hx =>
      have ex := Dns.txts hx
      subst ex
      refine ⟨_, rfl, a, _, 0, _, rfl, rfl, ha.sq, atI_nat (j := 0) rfl, rfl, _, rfl, iteT ?_⟩
      have jl : (Txt.join "," xs).length ≤ 660 * (8 + 1) := joinLen (fun x hx => (host_in (hosts_in ah x hx)).2.1) ln rfl
      have lN : (numS c).length ≤ 4 := numS_len (by decide) (by show c < 10000; omega)
      refine ⟨⟨_, rfl⟩, _, rfl, a, _, 1, .ref b, rfl, rfl, ha.sq, atI_nat (j := 1) rfl, _, b, xs, rfl, rfl, .inr hb.sq, ?_, ?_⟩
      · have z : (xs.map (·.length)).sum ≤ xs.length * 8 := sum_le fun x hx => (host_in (hosts_in ah x hx)).2.1
        have y : ((",": Str)).length = 1 := rfl
        rw [y]
        omega
      refine ⟨_, _, rfl, rfl, ?_, _, _, rfl, rfl, ?_, _, rfl, a, _, 2, .int (c : Int), rfl, rfl, ha.sq, atI_nat (j := 2) rfl, _, rfl, log2_small (i := c) (k := 10) (by show c < 1024; omega) (by decide), _, numS c, rfl, rfl, ?_, ?_⟩
      · exact le400 (by show 4 + _ ≤ _; omega)
      · rw [len_app]
        exact le400 (by show 4 + _ + 1 ≤ _; omega)
      · rw [len_app, len_app]
        exact le400 (by show 4 + _ + 1 + _ ≤ _; omega)
      have et : "ask " ++ Txt.join "," xs ++ " " ++ numS c = evText (.tuple [.str "ask", .tuple (xs.map PyData.str), .int (c : Int)]) := by
        unfold evText
        rw [evParts_ask, join3, show ("ask " : Str) = ("ask" : Str) ++ (" " : Str) by decide +kernel]
      rw [← et] at q
      exact q
    | flat k ps hk l hp =>
      have et : evText (.tuple (.str k :: ps.map PyData.str)) = Txt.join " " (k :: ps) := by
        unfold evText
        rw [← List.map_cons (f := PyData.str), evParts_flat]
      rw [et] at q
      cases dn with
      | @tup a vs _ ha hd =>
      have ex := Dns.txts (xs := k :: ps) hd
      subst ex
      refine ⟨_, rfl, a, _, 0, .str k, rfl, rfl, ha.sq, atI_nat (j := 0) rfl, rfl, _, rfl, ?_⟩
      rw [decide_eq_false (show ¬ V.str k = V.str "ask" from fun z => hk (by injection z))]
      refine iteF ?_
      refine ⟨⟨_, rfl⟩, _, rfl, _, a, k :: ps, rfl, rfl, .inr ha.sq, ?_, q⟩
      have z : ((k :: ps).map (·.length)).sum ≤ (k :: ps).length * 12 := sum_le fun x hx => (hp x hx).2.1
      have y : ((" ": Str)).length = 1 := rfl
      rw [List.length_cons] at z
      rw [y, List.length_cons]
      omega
def spRead (K : PySem.W.Frag) : Sp := fun vs H Q _ => ∃ (v : V) (d : PyData), vs = [v] ∧ Dn K H v d ∧ (∀ x, d = .str x → x.length ≤ 640 ∧ (isEv (rdOf (Txt.split x " ")) = true → ∀ H' t, Same H H' → Dn K H' (.ref t) (rdOf (Txt.split x " ")) → Q (.ref t) H') ∧ (isEv (rdOf (Txt.split x " ")) = false → ∀ H', Same H H' → Q .non H')) ∧ ((∀ x, d ≠ .str x) → Q .non H)
theorem ok_read {f : Addr} {fd : FuncData} (F : Fun K "_law_read" "_law_read" s_law_read f fd) (Y : Bn mg) (G_law_number : Fk P w K mg base CX0 1 "_law_number" ["_law_word"] spNum) (G_law_is_event : Fk P w K mg base CX0 3 "_law_is_event" ["_law_value"] (spIsEv K)) : FnOk P w K mg base CX0 4 f fd ["_law_said"] (spRead K) := by
  refine F.ok sc_law_read (fun vs H Q E h => ?_) (fun cdv A outer s H vs Q E hr h => ?_)
  · obtain ⟨v, d, rfl, _⟩ := h
    rfl
  · obtain ⟨v, d, rfl, dn, q1, q2⟩ := h
    refine ⟨_, (pss_cons (ps_if (pt_not (pt_val (pe_callB call_isi (by rfl) Y.isinstance (by decide +kernel) (pa_cons (pv 0) (pa_cons (pe_bltn (v := .ty "str") (by rfl) Y.str (by decide +kernel) rfl) pa_nil)))))
 (pss_one (ps_ret pe_non))
 pss_nil)
 (pss_cons (ps_set (i := 1) sc_law_read.nd rfl (.inl rfl) (pe_split (pv 0) pe_str))
 (pss_cons (ps_set (i := 2) sc_law_read.nd rfl (.inl rfl) (pe_callTy call_tupOf (by rfl) Y.tuple (by decide +kernel) (pa_cons (pv 1) pa_nil)))
 (pss_cons (ps_if (pt_cmpR op_eq (pe_ix ix_list (pv 1) pe_int (fun _ _ => rfl)) pe_str (nomark _))
 (pss_cons (ps_set (i := 2) sc_law_read.nd rfl (.inl rfl) (pe_tupZ (pa_cons pe_str (pa_cons (pe_callTy call_tupOf (by rfl) Y.tuple (by decide +kernel) (pa_cons (pe_split (pe_ix ix_list (pe_op op_cat (pv 1) (pe_lst (pa_cons pe_str pa_nil))) pe_int (fun _ _ => rfl)) pe_str) pa_nil)) (pa_cons (pe_callF G_law_number (hr.mono (by decide)) (by rfl) pass0 (pa_cons (pe_ix ix_list (pe_op op_cat (pv 1) (pe_lst (pa_cons pe_str (pa_cons pe_str pa_nil)))) pe_int (fun _ _ => rfl)) pa_nil)) pa_nil)))))
 (pss_one (ps_set (i := 2) sc_law_read.nd rfl (.inl rfl) (pe_ifExp (pt_cmpR op_eq (pe_callB call_len_seq (by rfl) Y.len PySem.boot_len (pa_cons (pv 1) pa_nil)) pe_int (nomark _)) (pv 2) pe_non))))
 pss_nil)
 (pss_one (ps_ret (pe_ifExp (pt_val (pe_callF G_law_is_event (hr.mono (by decide)) (by rfl) pass0 (pa_cons (pv 2) pa_nil))) (pv 2) pe_non))))))), ?_⟩
    rcases str_or dn with ⟨x, rfl, rfl⟩ | ⟨no, t, ty, kt⟩
    case' inr =>
      refine ⟨v, rfl, v, _, _, _, false, rfl, .ty "str", ty, kit_ty kt, _, rfl, iteT ?_⟩
      exact q2 no
    obtain ⟨l6, qa, qb⟩ := q1 x rfl
    refine ⟨_, rfl, _, _, _, _, true, rfl, .ty "str", .base (.str x), kit_ty (by decide +kernel), _, rfl, iteF ?_⟩
    have sl := PyProof.Rows.split_le x " "
    have lp : ∀ p ∈ Txt.split x " ", p.length ≤ 640 := fun p hp => Nat.le_trans (part_le x hp) l6
    have sm := sml_rd (by omega) lp
    have ne := split_ne x
    refine ⟨_, rfl, ⟨_, rfl⟩, _, _, rfl, rfl, rfl, le200 (by omega), fun L nL => ?_⟩
    generalize hg : upd _ L _ = H1
    obtain ⟨s1, g1⟩ := (show Same H H1 ∧ H1 L = some (.lst ((Txt.split x " ").map V.str)) by rw [← hg]; exact ⟨same_upd nL, upd_same⟩)
    clear hg
    generalize Txt.split x " " = ps at qa qb sl lp sm g1 ne
    refine ⟨_, rfl, L, _, rfl, SqL.of g1, (by rw [List.length_map]; omega), fun p0 o0 np0 sp0 tp0 => ?_⟩
    generalize upd _ p0 o0 = H2 at sp0 tp0 ⊢
    have s02 := s1.trans sp0
    have g2 := sp0 _ _ g1
    obtain ⟨k, ps, rfl⟩ : ∃ k r, ps = k :: r := by
      cases ps with
      | nil => exact absurd rfl ne
      | cons k r => exact ⟨k, r, rfl⟩
    refine ⟨_, rfl, L, _, 0, .str k, rfl, rfl, SqL.of g2, atI_nat (j := 0) rfl, rfl, _, rfl, ite2 (fun c => ?_) (fun c => ?_)⟩
    · have ck : k = "ask" := by
        have z := of_decide_eq_true c
        injection z
      subst ck
      refine ⟨_, rfl, (by show 1 ≤ sizeLine; decide), fun m1 nm1 => ?_⟩
      generalize hg : upd _ m1 _ = H3
      obtain ⟨s3, g3⟩ := upd_new hg nm1
      clear hg
      refine ⟨L, m1, _, _, rfl, rfl, s3 _ _ g2, g3, (by rw [List.length_map]; exact le200 (by show _ + 1 ≤ _; omega)), fun m2 nm2 => ?_⟩
      generalize hg : upd _ m2 _ = H4
      obtain ⟨s4, g4⟩ := upd_new hg nm2
      clear hg
      obtain ⟨pp, hpp, lpp⟩ : ∃ pp : Str, ((("ask" : Str) :: ps) ++ [("" : Str)])[1]? = some pp ∧ pp.length ≤ 640 := by
        cases ps with
        | nil => exact ⟨"", rfl, by decide⟩
        | cons p r => exact ⟨p, rfl, lp p (by simp)⟩
      have g4' : H4 m2 = some (.lst (((("ask" : Str) :: ps) ++ [("" : Str)]).map V.str)) := by
        rw [g4, List.map_append]
        rfl
      refine ⟨m2, _, 1, .str pp, rfl, rfl, SqL.of g4', atI_nat (j := 1) (by rw [List.getElem?_map, hpp]; rfl), ⟨_, rfl⟩, _, _, rfl, rfl, rfl, le200 (by omega), fun M nM => ?_⟩
      have sl2 := PyProof.Rows.split_le pp ","
      generalize hg : upd _ M _ = H5
      obtain ⟨s5, g5⟩ := (show Same H4 H5 ∧ H5 M = some (.lst ((Txt.split pp ",").map V.str)) by rw [← hg]; exact ⟨same_upd nM, upd_same⟩)
      clear hg
      refine ⟨M, _, rfl, SqL.of g5, (by rw [List.length_map]; omega), fun p6 o6 np6 sp6 tp6 => ?_⟩
      generalize upd _ p6 o6 = H6 at sp6 tp6 ⊢
      have s26 := s3.trans (s4.trans (s5.trans sp6))
      refine ⟨_, rfl, (by show 2 ≤ sizeLine; decide), fun m7 nm7 => ?_⟩
      generalize hg : upd _ m7 _ = H7
      obtain ⟨s7, g7⟩ := upd_new hg nm7
      clear hg
      refine ⟨L, m7, _, _, rfl, rfl, s7 _ _ (s26 _ _ g2), g7, (by rw [List.length_map]; exact le200 (by show _ + 2 ≤ _; omega)), fun m8 nm8 => ?_⟩
      generalize hg : upd _ m8 _ = H8
      obtain ⟨s8, g8⟩ := upd_new hg nm8
      clear hg
      obtain ⟨cc, hcc, lcc⟩ : ∃ cc : Str, ((("ask" : Str) :: ps) ++ [("" : Str), ("" : Str)])[2]? = some cc ∧ cc.length ≤ 640 := by
        cases ps with
        | nil => exact ⟨"", rfl, by decide⟩
        | cons p r =>
          cases r with
          | nil => exact ⟨"", rfl, by decide⟩
          | cons c r => exact ⟨c, rfl, lp c (by simp)⟩
      have g8' : H8 m8 = some (.lst (((("ask" : Str) :: ps) ++ [("" : Str), ("" : Str)]).map V.str)) := by
        rw [g8, List.map_append]
        rfl
      refine ⟨m8, _, 2, .str cc, rfl, rfl, SqL.of g8', atI_nat (j := 2) (by rw [List.getElem?_map, hcc]; rfl), cc, rfl, lcc, fun H9 s9 => ?_⟩
      refine ⟨(by show 3 ≤ sizeLine; decide), fun pA oA npA spA tpA => ?_⟩
      generalize upd _ pA oA = HA at spA tpA ⊢
      have s6A := s7.trans (s8.trans (s9.trans spA))
      have s2A := s26.trans s6A
      have gA := s2A _ _ g2
      refine ⟨_, rfl, L, _, rfl, .inl (SqL.of gA), rfl, _, rfl, ite2 (fun c => ?_) (fun c => ?_)⟩
      · have c' : (("ask" : Str) :: ps).length = 3 := by
          have z := of_decide_eq_true c
          injection z with z
          rw [List.length_map] at z
          omega
        obtain ⟨p, y, rfl⟩ : ∃ b c, ps = [b, c] := by
          match ps, c' with
          | [b, c], _ => exact ⟨b, c, rfl⟩
        have e1 : p = pp := by
          have : some p = some pp := hpp
          injection this
        have e2 : y = cc := by
          have : some y = some cc := hcc
          injection this
        subst e1 e2
        rw [rdOf_ask] at qa qb sm
        have dA : Dn K HA (.ref pA) (.tuple [.str "ask", .tuple ((Txt.split p ",").map PyData.str), oD (lawN y)]) := .tup tpA (.cons (.str _) (.cons (.tup (tp6.same s6A) (dns_strs _)) (.cons (dn_o _) .nil)))
        refine ⟨_, rfl, ?_⟩
        refine ⟨_, rfl, _, _, rfl, dA, sm, fun HB sB => ⟨_, rfl, ?_⟩⟩
        cases ci : isEv (.tuple [.str "ask", .tuple ((Txt.split p ",").map PyData.str), oD (lawN y)]) with
        | true => exact iteT ⟨_, rfl, qa ci _ pA ((s02.trans s2A).trans sB) (dA.same sB)⟩
        | false => exact iteF (qb ci _ ((s02.trans s2A).trans sB))
      · have c' : (("ask" : Str) :: ps).length ≠ 3 := fun z => c (decide_eq_true (by rw [List.length_map, z]; rfl))
        rw [rdOf_a rfl c'] at qa qb sm
        refine ⟨_, rfl, _, .none, rfl, .non, sm, fun HB sB => ⟨_, rfl, iteF ?_⟩⟩
        exact qb rfl _ ((s02.trans s2A).trans sB)
    · have ck : k ≠ "ask" := fun z => c (decide_eq_true (by rw [z]))
      rw [rdOf_n (fun z => ck (by injection z))] at qa qb sm
      have d2 : Dn K H2 (.ref p0) (.tuple ((k :: ps).map PyData.str)) := .tup tp0 (dns_strs _)
      refine ⟨_, rfl, _, _, rfl, d2, sm, fun HB sB => ⟨_, rfl, ?_⟩⟩
      cases ci : isEv (.tuple ((k :: ps).map PyData.str)) with
      | true => exact iteT ⟨_, rfl, qa ci _ p0 (s02.trans sB) (d2.same sB)⟩
      | false => exact iteF (qb ci _ (s02.trans sB))
end
end My

namespace My
open PySem PySem.Spec PyProof.Rows L2 Gy Xl Xs Xt
theorem rcut_of {H : Hp} {a : Addr} {xs ys : List V} {lo hi : Option Int} {Q : VK} (z : Tz H a xs) (e : cutV xs lo hi = ys) (k : ∀ t H', Same H H' → Tz H' t ys → Q (.ref t) H') : NewT (cutV xs lo hi) H Q ∧ (cutV xs lo hi = xs → Q (.ref a) H) := by
  refine ⟨fun p o n s t => k p _ s ?_, fun w => k a H (Same.refl _) ?_⟩
  · rw [← e]
    exact t
  · rw [← e, w]
    exact z
theorem rot3 {A B C : Prop} (h : C ∧ A ∧ B) : A ∧ B ∧ C := ⟨h.2.1, h.2.2, h.1⟩
theorem sum_of {H : Hp} {a b : Addr} {xs ys : List V} {Q : VK} (z1 : Tz H a xs) (z2 : Tz H b ys) (k : ∀ t H', Same H H' → Tz H' t (xs ++ ys) → Q (.ref t) H') : NewT (xs ++ ys) H Q ∧ (xs = [] → Q (.ref b) H) ∧ (ys = [] → Q (.ref a) H) := by
  refine ⟨fun p o n s t => k p _ s t, fun w => k b H (Same.refl _) ?_, fun w => k a H (Same.refl _) ?_⟩
  · rw [w]
    exact z2
  · rw [w, List.append_nil]
    exact z1
theorem it_host {x : Str} (h : Nm x) : isHost (.str x) = true := by
  show (decide ((1 : Int) ≤ (x.length : Int)) && decide ((x.length : Int) ≤ 8) && allIn LET x) = true
  rw [decide_eq_true (by have := h.1; omega), decide_eq_true (by have := h.2.1; omega)]
  exact List.all_eq_true.mpr fun c hc => decide_eq_true (h.2.2 c hc)
theorem it_isrel {xs : List Str} {c : Nat} (nm : ∀ x ∈ xs, Nm x) (nd : xs.Nodup) (l3 : 3 ≤ xs.length) (cl : c + 2 ≤ xs.length) : isRel (.tuple [.tuple (xs.map PyData.str), .int (c : Int)]) = true := by
  show (isPath (.tuple (xs.map PyData.str)) && isIdx (((xs.map PyData.str).length : Int) - 1) (.int (c : Int))) = true
  rw [isPath_t, isIdx_i, List.length_map, txts_map, decide_eq_true l3, decide_eq_true nd, decide_eq_true (by omega), decide_eq_true (by omega)]
  have z : (xs.map PyData.str).all isHost = true := by
    rw [List.all_map, List.all_eq_true]
    exact fun x hx => it_host (nm x hx)
  rw [z]
  rfl
section
variable {P : Program} {w : World} {K : PySem.W.Frag} {mg : Str → Option Value} {base : Heap} {H : Hp}
def spWordD : Sp := fun vs H Q _ => ∃ r : Addr, vs = [.ref r] ∧ Rng H r ∧ ∀ H' x, But r H H' → Rng H' r → A0 (.str x) → isWord (.str x) = true → Q (.str x) H'
theorem ok_wordD {f : Addr} {fd : FuncData} (F : Fun K "_law_drawn_word" "_law_drawn_word" s_law_drawn_word f fd) (Y : Bn mg) (G_law_draw : Fk P w K mg base CX0 1 "_law_draw" ["_law_rng_here", "_law_many"] spDraw) : FnOk P w K mg base CX0 2 f fd ["_law_rng_here"] spWordD := by
  refine F.ok sc_law_drawn_word (fun vs H Q E h => ?_) (fun cdv A outer s H vs Q E hr h => ?_)
  · obtain ⟨r, rfl, _⟩ := h
    rfl
  · obtain ⟨r, rfl, R, q⟩ := h
    refine ⟨_, (pss_cons (ps_set (i := 1) sc_law_drawn_word.nd rfl (.inr rfl) pe_str)
 (pss_cons (ps_set (i := 2) sc_law_drawn_word.nd rfl (.inl rfl) (pe_ix ix_list (pe_lst (pa_cons pe_int (pa_cons pe_int (pa_cons pe_int (pa_cons (pe_op op_add pe_int (pe_callF G_law_draw (hr.mono (by decide)) (by rfl) pass0 (pa_cons (pv 0) (pa_cons pe_int pa_nil)))) pa_nil))))) (pe_callF G_law_draw (hr.mono (by decide)) (by rfl) pass0 (pa_cons (pv 0) (pa_cons pe_int pa_nil))) (fun _ _ => rfl)))
 (pss_one (ps_ret (pe_join pe_str (pe_lc (own := [("_law_turn", 3)]) (g := gName 3) (tt := tYes) rfl sc_law_drawn_word.nd (pi_range1 (by rfl) Y.range (pa_cons (pv 2) pa_nil)) (blkOk_by (N := ["_law_rng_here", "_law_signs", "_law_size", "_law_turn"]) (sc := defScope s_law_drawn_word) (by decide +kernel)) (fun _ _ _ _ _ => (pg_name (i := 3) sc_law_drawn_word.nd rfl (Or.inl rfl))) (fun _ _ _ _ _ => pts_nil) (fun _ _ _ _ _ => (pe_ix ix_str (pv 1) (pe_callF G_law_draw (hr.mono (by decide)) (by rfl) pass0 (pa_cons (pv 0) (pa_cons pe_int pa_nil))) (fun _ _ => rfl))))))))), ?_⟩
    refine ⟨_, rfl, r, 12, rfl, R, by decide, by decide, fun H1 a b1 R a0 a1 => ⟨_, _, rfl, rfl, ?_⟩⟩
    obtain ⟨a, rfl⟩ := Int.eq_ofNat_of_zero_le a0
    refine ⟨(by show 4 ≤ sizeLine; decide), fun l2 n2 => ?_⟩
    have ne2 := R.ne n2
    generalize hg : upd _ l2 _ = H2
    obtain ⟨s2, g2⟩ := upd_new hg n2
    clear hg
    have R := R.same s2
    refine ⟨_, rfl, r, 4, rfl, R, by decide, by decide, fun H3 b b3 R c0 c1 => ?_⟩
    have g2 := b3 _ _ ne2 g2
    obtain ⟨v, hv, mv⟩ := at_in (xs := [V.int 1, .int 2, .int 12, .int (1 + (a : Int))]) c0 c1
    refine ⟨l2, _, b, v, rfl, rfl, SqL.of g2, hv, ?_⟩
    obtain ⟨m, rfl, m1, m8⟩ : ∃ m : Nat, v = .int (m : Int) ∧ 1 ≤ m ∧ m ≤ 12 := by
      simp only [List.mem_cons, List.not_mem_nil, or_false] at mv
      rcases mv with rfl | rfl | rfl | rfl
      · exact ⟨1, rfl, by decide, by decide⟩
      · exact ⟨2, rfl, by decide, by decide⟩
      · exact ⟨12, rfl, by decide, by decide⟩
      · exact ⟨1 + a, by rw [show (1 : Int) + (a : Int) = ((1 + a : Nat) : Int) by omega], by omega, by omega⟩
    clear mv hv g2
    have b03 : But r H H3 := b1.trans ((But.of s2).trans b3)
    clear b1 b3
    generalize H3 = HS at b03 R ⊢
    refine ⟨⟨_, rfl⟩, _, rfl, (m : Int), rfl, by omega, by omega, fun D hD => ?_⟩
    have nD : D ≠ r := R.ne hD
    refine lc_it (walk_range (lo := 0) (n := ((m : Int) - 0).toNat)) (fun i H' => But r HS H' ∧ Rng H' r ∧ ∃ ys : List Str, H' D = some (.lst (ys.map V.str)) ∧ ys.length = i ∧ (∀ y ∈ ys, y.length = 1) ∧ ∀ y ∈ ys, ∀ c ∈ y.cps.toList, c ∈ (WSG).cps.toList)
      ⟨But.of (same_upd hD), R.upd hD, [], upd_same, rfl, (fun y z => nomatch z), fun y z => nomatch z⟩ (fun _ _ _ _ => trivial) ?_ ?_
    · rintro j y H4 H5 hj ⟨b4, R4, ys, hY, yl, y1, y2⟩ ⟨rfl, rfl⟩
      refine ⟨rfl, ?_⟩
      dsimp only [tYes]
      refine iteT ?_
      refine ⟨_, rfl, _, rfl, r, 36, rfl, R4, by decide, by decide, fun H6 e b6 R6 e0 e1 => ?_⟩
      obtain ⟨c, hc, mc⟩ := at_in (xs := (WSG).cps.toList) e0 (by rw [show (WSG).cps.toList.length = 36 by decide +kernel]; exact e1)
      refine ⟨WSG, e, c, rfl, rfl, (by decide +kernel), hc, _, b6 D _ nD hY, ?_, ?_, ?_, ys ++ [⟨#[c]⟩], ?_, ?_, ?_, ?_⟩
      · rw [List.length_map, yl]
        exact small200 (by omega)
      · exact (b4.trans b6).upd hD
      · exact R6.upd2 nD
      · rw [upd_same, List.map_append]
        rfl
      · rw [List.length_append, yl]
        rfl
      · intro y hy'
        rcases List.mem_append.mp hy' with z | z
        · exact y1 y z
        · rw [List.mem_singleton.mp z]
          rfl
      · intro y hy'
        rcases List.mem_append.mp hy' with z | z
        · exact y2 y z
        · rw [List.mem_singleton.mp z]
          intro c' hc'
          have hc2 : c' ∈ [c] := hc'
          rw [List.mem_singleton.mp hc2]
          exact mc
    rintro H4 ⟨b4, R4, ys, hY, yl, y1, y2⟩
    refine ⟨"", D, ys, rfl, rfl, .inl (SqL.of hY), ?_, ?_⟩
    · have e1 : (ys.map (·.length)).sum ≤ ys.length := sum_ones ys y1
      show (ys.map (·.length)).sum + ys.length * 0 ≤ 16777216
      omega
    rw [TL.join_eq]
    have jl := join_len ys y1
    have ji := join_in ys y2
    generalize Str.join "" ys = x0 at jl ji ⊢
    clear y1 y2 hY
    have iw : isWord (.str x0) = true := by
      show (decide ((1 : Int) ≤ (x0.length : Int)) && decide ((x0.length : Int) ≤ 12) && allIn WSG x0) = true
      rw [decide_eq_true (by omega), decide_eq_true (by omega)]
      exact List.all_eq_true.mpr fun c hc => decide_eq_true (ji c hc)
    refine q _ x0 (b03.trans b4) R4 (a0_txt ?_) iw
    rw [Bool.and_eq_true, decide_eq_true_eq]
    refine ⟨by omega, List.all_eq_true.mpr fun c hc => ?_⟩
    have z : ∀ d ∈ WSG.cps.toList, d < 16 ^ 8 := by decide +kernel
    exact decide_eq_true (z c (ji c hc))

def spDrawn (K : PySem.W.Frag) : Sp := fun vs H Q _ => ∃ (r : Addr) (k : Int), vs = [.ref r, .int k] ∧ 0 ≤ k ∧ k < 5 ∧ Rng H r ∧
  ∀ H' (t : Addr) (xs : List V) (ds : List PyData), But r H H' → Rng H' r → Tz H' t xs → Dbs K r H' xs ds → isEv (.tuple ds) = true → (∀ p ∈ ds, A0 p ∧ oks p = true) → ds.length ≤ 3 → (∀ es, .tuple es ∈ ds → es.length ≤ 12) → Q (.ref t) H'
theorem oks_nm {x : Str} (h : Nm x) : oks (.str x) = true := oks_okt fun c hc => let_lt c (h.2.2 c hc)
theorem names_a0 {xs : List Str} (nm : ∀ x ∈ xs, Nm x) (l : xs.length ≤ 12) : A0 (.tuple (xs.map PyData.str)) := by
  refine (Bd.tup (n := 0) (W := 8) (L := 12) (fun e he => ?_) (by rw [List.length_map]; exact l) (by decide)).mono (by decide) (by decide)
  obtain ⟨x, hx, rfl⟩ := List.mem_map.mp he
  exact bd_ok (nm x hx).2.1 (by decide) fun c hc => let_lt c ((nm x hx).2.2 c hc)
theorem two_ev {k x y : Str} (hk : k ∈ ([("deliver" : Str), "add"] : List Str)) (hx : Nm x) (hy : Nm y) : isEv (.tuple [.str k, .str x, .str y]) = true := by
  simp only [List.mem_cons, List.not_mem_nil, or_false] at hk
  rw [isEv_t]
  have z : ([.str x, .str y] : List PyData).all isHost = true := by
    show (isHost (.str x) && (isHost (.str y) && true)) = true
    rw [it_host hx, it_host hy]
    rfl
  rcases hk with rfl | rfl
  · rw [z, if_neg (by decide +kernel), if_neg (by decide +kernel), decide_eq_true (by show evSz "deliver" = some 3; decide +kernel)]
    rfl
  · rw [z, if_neg (by decide +kernel), if_neg (by decide +kernel), decide_eq_true (by show evSz "add" = some 3; decide +kernel)]
    rfl
theorem ok_drawn {f : Addr} {fd : FuncData} (F : Fun K "_law_drawn" "_law_drawn" s_law_drawn f fd) (Y : Bn mg) (G_law_draw : Fk P w K mg base CX0 1 "_law_draw" ["_law_rng_here", "_law_many"] spDraw) (G_law_names : Fk P w K mg base CX0 2 "_law_names" ["_law_rng_here", "_law_many"] spNames) (G_law_shuffled : Fk P w K mg base CX0 2 "_law_shuffled" ["_law_rng_here", "_law_some"] spShuf) (G_law_drawn_word : Fk P w K mg base CX0 2 "_law_drawn_word" ["_law_rng_here"] spWordD) :
    FnOk P w K mg base CX0 3 f fd ["_law_rng_here", "_law_kind"] (spDrawn K) := by
  refine F.ok sc_law_drawn (fun vs H Q E h => ?_) (fun cdv A outer s H vs Q E hr h => ?_)
  · obtain ⟨r, k, rfl, _⟩ := h
    rfl
  · obtain ⟨r, k, rfl, k0, k5, R, q⟩ := h
    refine ⟨_, (pss_cons (ps_set (i := 2) sc_law_drawn.nd rfl (.inl rfl) (pe_callF G_law_names (hr.mono (by decide)) (by rfl) pass0 (pa_cons (pv 0) (pa_cons pe_int pa_nil))))
 (pss_cons (ps_if (pt_cmpR op_eq (pv 1) pe_int (nomark _))
 (pss_one (ps_ret (pe_tupZ (pa_cons pe_str (pa_cons (pe_ix ix_list (pv 2) pe_int (fun _ _ => rfl)) (pa_cons (pe_callF G_law_drawn_word (hr.mono (by decide)) (by rfl) pass0 (pa_cons (pv 0) pa_nil)) pa_nil))))))
 pss_nil)
 (pss_cons (ps_if (pt_cmpR op_eq (pv 1) pe_int (nomark _))
 (pss_cons (ps_set (i := 3) sc_law_drawn.nd rfl (.inl rfl) (pe_callTy call_tupOf (by rfl) Y.tuple (by decide +kernel) (pa_cons (pe_slice sl_list (pe_callF G_law_shuffled (hr.mono (by decide)) (by rfl) pass0 (pa_cons (pv 0) (pa_cons (pv 2) pa_nil))) po_none (po_some (pe_op op_add pe_int (pe_callF G_law_draw (hr.mono (by decide)) (by rfl) pass0 (pa_cons (pv 0) (pa_cons pe_int pa_nil)))))) pa_nil)))
 (pss_one (ps_ret (pe_tupZ (pa_cons pe_str (pa_cons (pv 3) (pa_cons (pe_callF G_law_draw (hr.mono (by decide)) (by rfl) pass0 (pa_cons (pv 0) (pa_cons (pe_op op_sub (pe_callB call_len_seq (by rfl) Y.len PySem.boot_len (pa_cons (pv 3) pa_nil)) pe_int) pa_nil))) pa_nil)))))))
 pss_nil)
 (pss_cons (ps_if (pt_cmpR op_eq (pv 1) pe_int (nomark _))
 (pss_one (ps_ret (pe_tupZ (pa_cons pe_str (pa_cons (pe_ix ix_list (pv 2) pe_int (fun _ _ => rfl)) pa_nil)))))
 pss_nil)
 (pss_one (ps_ret (pe_tupZ (pa_cons (pe_ix ix_list (pe_lst (pa_cons pe_str (pa_cons pe_str pa_nil))) (pe_op op_sub (pv 1) pe_int) (fun _ _ => rfl)) (pa_cons (pe_ix ix_list (pv 2) pe_int (fun _ _ => rfl)) (pa_cons (pe_ix ix_list (pv 2) pe_int (fun _ _ => rfl)) pa_nil)))))))))), ?_⟩
    refine ⟨_, rfl, r, 12, rfl, R, by decide, fun H1 L ns b1 R1 nL hL l12 nm nd => ?_⟩
    have neL := R.ne nL
    obtain ⟨n0, n1, r', rfl⟩ : ∃ a b r, ns = a :: b :: r := by
      match ns, l12 with
      | a :: b :: r, _ => exact ⟨a, b, r, rfl⟩
    have h0 := nm n0 List.mem_cons_self
    have h1 := nm n1 (List.mem_cons_of_mem _ List.mem_cons_self)
    have a00 := (⟨a0_nm h0, oks_nm h0⟩ : A0 (.str n0) ∧ oks (.str n0) = true)
    have a01 := (⟨a0_nm h1, oks_nm h1⟩ : A0 (.str n1) ∧ oks (.str n1) = true)
    refine ⟨_, rfl, rfl, _, rfl, ite2 (fun c0 => ?_) (fun c0 => ?_)⟩
    · refine ⟨_, rfl, L, _, 0, .str n0, rfl, rfl, SqL.of hL, atI_nat (j := 0) rfl, _, rfl, r, rfl, R1, fun H2 x b2 R2 ax iw => ?_⟩
      refine ⟨(by show 3 ≤ sizeLine; decide), fun t o n st tz => ?_⟩
      have ev : isEv (.tuple [.str "write", .str n0, .str x]) = true := by
        rw [isEv_t, if_neg (by decide +kernel), if_pos rfl, decide_eq_true (by show evSz "write" = some 3; decide +kernel)]
        show (isHost (.str n0) && isWord (.str x)) = true
        rw [it_host h0, iw]
        rfl
      refine q _ t _ [.str "write", .str n0, .str x] (b1.trans (b2.trans (But.of st))) (R2.same st) tz (.cons (.str _) (.cons (.str _) (.cons (.str _) .nil))) ev (fun p hp => ?_) (by show 3 ≤ 3; decide) (fun es he => ?_)
      · simp only [List.mem_cons, List.not_mem_nil, or_false] at hp
        rcases hp with rfl | rfl | rfl
        · exact ⟨a0_txt, by decide +kernel⟩
        · exact a00
        · exact ⟨ax, oks_okt (word_part iw).2.2⟩
      · simp only [List.mem_cons, List.not_mem_nil, or_false, reduceCtorEq, or_self] at he
    refine ⟨_, rfl, rfl, _, rfl, ite2 (fun c1 => ?_) (fun c1 => ?_)⟩
    · refine ⟨_, rfl, _, rfl, r, L, _, rfl, R1, neL, hL, by omega, fun H2 M ys b2 R2 nM hM pm => ?_⟩
      have neM := R1.ne nM
      have yl := pm.length_eq
      rw [l12] at yl
      refine ⟨_, rfl, r, 10, rfl, R2, by decide, by decide, fun H3 d b3 R3 d0 d1 => ?_⟩
      obtain ⟨d, rfl⟩ := Int.eq_ofNat_of_zero_le d0
      have hM3 := b3 _ _ neM hM
      refine ⟨_, _, rfl, rfl, _, rfl, M, _, rfl, SqL.of hM3, fun p np => ?_⟩
      rw [show (some ((3 : Int) + (d : Int))) = some ((3 + d : Nat) : Int) by rw [show (3 : Int) + (d : Int) = ((3 + d : Nat) : Int) by omega], cutn ys (by omega)]
      generalize hg : upd _ p _ = H4
      obtain ⟨s4, g4⟩ := upd_new hg np
      clear hg
      have R4 := R3.same s4
      have tl : (ys.take (3 + d)).length = 3 + d := by rw [List.length_take]; omega
      refine ⟨p, _, rfl, SqL.of g4, (by rw [List.length_map, tl]; omega), fun pa o5 n5 s5 pz => ?_⟩
      generalize upd _ pa o5 = H5 at s5 pz ⊢
      have R5 := R4.same s5
      refine ⟨_, rfl, _, rfl, _, rfl, pa, _, rfl, .inr pz.sq, _, _, rfl, rfl, ?_⟩
      rw [List.length_map, tl]
      refine ⟨r, _, rfl, R5, by omega, by omega, fun H6 c b6 R6 c0 c1 => ?_⟩
      obtain ⟨c, rfl⟩ := Int.eq_ofNat_of_zero_le c0
      have pz6 := pz.but R5 b6
      refine ⟨(by show 3 ≤ sizeLine; decide), fun t o n st tz => ?_⟩
      have my : ∀ x ∈ ys.take (3 + d), Nm x := fun x hx => nm x (pm.mem_iff.mp (List.mem_of_mem_take hx))
      have ndt : (ys.take (3 + d)).Nodup := (pm.nodup_iff.mpr nd).sublist (List.take_sublist _ _)
      have ev : isEv (.tuple [.str "ask", .tuple ((ys.take (3 + d)).map PyData.str), .int (c : Int)]) = true := by
        rw [isEv_t, if_pos rfl, decide_eq_true (by show evSz "ask" = some 3; decide +kernel), it_isrel my ndt (by omega) (by omega)]
        rfl
      have R7 := R6.same st
      refine q _ t _ [.str "ask", .tuple ((ys.take (3 + d)).map PyData.str), .int (c : Int)] (b1.trans (b2.trans (b3.trans ((But.of (s4.trans s5)).trans (b6.trans (But.of st)))))) R7 tz (.cons (.str _) (.cons (.tup R7 (pz6.same st) (dbs_strs _)) (.cons (.int _) .nil))) ev (fun p hp => ?_) (by show 3 ≤ 3; decide) (fun es he => ?_)
      · simp only [List.mem_cons, List.not_mem_nil, or_false] at hp
        rcases hp with rfl | rfl | rfl
        · exact ⟨a0_txt, by decide +kernel⟩
        · exact ⟨names_a0 my (by omega), okss_of fun e he => by
            obtain ⟨x, hx, rfl⟩ := List.mem_map.mp he
            exact oks_nm (my x hx)⟩
        · exact ⟨a0_nat (by omega), rfl⟩
      · simp only [List.mem_cons, List.not_mem_nil, or_false, reduceCtorEq, false_or] at he
        injection he with he
        rw [he, List.length_map]
        omega
    refine ⟨_, rfl, rfl, _, rfl, ite2 (fun c4 => ?_) (fun c4 => ?_)⟩
    · refine ⟨_, rfl, L, _, 0, .str n0, rfl, rfl, SqL.of hL, atI_nat (j := 0) rfl, ?_⟩
      refine ⟨(by show 2 ≤ sizeLine; decide), fun t o n st tz => ?_⟩
      have ev : isEv (.tuple [.str "remove", .str n0]) = true := by
        rw [isEv_t, if_neg (by decide +kernel), if_neg (by decide +kernel), decide_eq_true (by show evSz "remove" = some 2; decide +kernel)]
        show (isHost (.str n0) && true) = true
        rw [it_host h0]
        rfl
      refine q _ t _ [.str "remove", .str n0] (b1.trans (But.of st)) (R1.same st) tz (.cons (.str _) (.cons (.str _) .nil)) ev (fun p hp => ?_) (by show 2 ≤ 3; decide) (fun es he => ?_)
      · simp only [List.mem_cons, List.not_mem_nil, or_false] at hp
        rcases hp with rfl | rfl
        · exact ⟨a0_txt, by decide +kernel⟩
        · exact a00
      · simp only [List.mem_cons, List.not_mem_nil, or_false, reduceCtorEq, or_self] at he
    have m0 : k ≠ 0 := fun z => c0 (decide_eq_true (by rw [z]))
    have m1 : k ≠ 1 := fun z => c1 (decide_eq_true (by rw [z]))
    have m4 : k ≠ 4 := fun z => c4 (decide_eq_true (by rw [z]))
    refine ⟨(by show 2 ≤ sizeLine; decide), fun l2 nl2 => ?_⟩
    generalize hg : upd _ l2 _ = H2
    obtain ⟨s2, g2⟩ := upd_new hg nl2
    clear hg
    obtain ⟨v, hv, mv⟩ := at_in (xs := [V.str "deliver", V.str "add"]) (d := k - 2) (by omega) (by show k - 2 < 2; omega)
    obtain ⟨kk, rfl, mk⟩ : ∃ kk : Str, v = .str kk ∧ kk ∈ ([("deliver" : Str), "add"] : List Str) := by
      simp only [List.mem_cons, List.not_mem_nil, or_false] at mv
      rcases mv with rfl | rfl
      · exact ⟨_, rfl, List.mem_cons_self⟩
      · exact ⟨_, rfl, List.mem_cons_of_mem _ List.mem_cons_self⟩
    have hL2 := s2 _ _ hL
    refine ⟨_, rfl, _, _, rfl, rfl, l2, _, _, _, rfl, rfl, SqL.of g2, hv, ?_⟩
    refine ⟨_, rfl, L, _, 0, .str n0, rfl, rfl, SqL.of hL2, atI_nat (j := 0) rfl, _, rfl, L, _, 1, .str n1, rfl, rfl, SqL.of hL2, atI_nat (j := 1) rfl, ?_⟩
    refine ⟨(by show 3 ≤ sizeLine; decide), fun t o n st tz => ?_⟩
    refine q _ t _ [.str kk, .str n0, .str n1] (b1.trans ((But.of s2).trans (But.of st))) ((R1.same s2).same st) tz (.cons (.str _) (.cons (.str _) (.cons (.str _) .nil))) (two_ev mk h0 h1) (fun p hp => ?_) (by show 3 ≤ 3; decide) (fun es he => ?_)
    · simp only [List.mem_cons, List.not_mem_nil, or_false] at hp mk
      rcases hp with rfl | rfl | rfl
      · rcases mk with rfl | rfl <;> exact ⟨a0_txt, by decide +kernel⟩
      · exact a00
      · exact a01
    · simp only [List.mem_cons, List.not_mem_nil, or_false, reduceCtorEq, or_self] at he
theorem tup_bd {ds : List PyData} (h : ∀ p ∈ ds, A0 p ∧ oks p = true) (l : ds.length ≤ 5) : Bd 2 700 (.tuple ds) ∧ oks (.tuple ds) = true := ⟨(Bd.tup (n := 1) (W := 120) (L := 5) (fun p hp => (h p hp).1) l (by decide)).mono (by decide) (by decide), okss_of fun p hp => (h p hp).2⟩
def spChg (K : PySem.W.Frag) : Sp := fun vs H Q _ => ∃ (r ta : Addr) (xs : List V) (ds : List PyData), vs = [.ref r, .ref ta] ∧ Rng H r ∧ Tz H ta xs ∧ Dbs K r H xs ds ∧ 1 ≤ ds.length ∧ ds.length ≤ 3 ∧ (∀ p ∈ ds, A0 p ∧ oks p = true) ∧ ∀ H' v d, But r H H' → Rng H' r → Db K r H' v d → Bd 2 700 d ∧ oks d = true → Q v H'
theorem ok_chg {f : Addr} {fd : FuncData} (F : Fun K "_law_changed" "_law_changed" s_law_changed f fd) (Y : Bn mg) (G_law_draw : Fk P w K mg base CX0 1 "_law_draw" ["_law_rng_here", "_law_many"] spDraw) (G_law_odd : Fk P w K mg base CX0 2 "_law_odd" ["_law_rng_here"] (spOdd K)) : FnOk P w K mg base CX0 3 f fd ["_law_rng_here", "_law_value"] (spChg K) := by
  refine F.ok sc_law_changed (fun vs H Q E h => ?_) (fun cdv A outer s H vs Q E hr h => ?_)
  · obtain ⟨r, ta, xs, ds, rfl, _⟩ := h
    rfl
  · obtain ⟨r, ta, xs, ds, rfl, R, tz, qd, l1, l3, pa, q⟩ := h
    refine ⟨_, (pss_cons (ps_par (i := 2) (j := 3) (by rfl) sc_law_changed.nd rfl rfl (by decide) rfl rfl (pa_cons (pe_callF G_law_draw (hr.mono (by decide)) (by rfl) pass0 (pa_cons (pv 0) (pa_cons (pe_callB call_len_seq (by rfl) Y.len PySem.boot_len (pa_cons (pv 1) pa_nil)) pa_nil))) (pa_cons (pe_callF G_law_draw (hr.mono (by decide)) (by rfl) pass0 (pa_cons (pv 0) (pa_cons pe_int pa_nil))) pa_nil)) (by rfl))
 (pss_cons (ps_if (pt_cmpR op_eq (pv 3) pe_int (nomark _))
 (pss_one (ps_ret (pe_op op_sum (pe_slice sl_cutA (pv 1) po_none (po_some (pv 2))) (pe_slice sl_cutA (pv 1) (po_some (pe_op op_add (pv 2) pe_int)) po_none))))
 pss_nil)
 (pss_cons (ps_if (pt_cmpR op_eq (pv 3) pe_int (nomark _))
 (pss_one (ps_ret (pe_op op_sum (pe_op op_sum (pe_slice sl_cutA (pv 1) po_none (po_some (pv 2))) (pe_slice sl_cutA (pv 1) (po_some (pv 2)) (po_some (pe_op op_add (pv 2) pe_int)))) (pe_slice sl_cutA (pv 1) (po_some (pv 2)) po_none))))
 pss_nil)
 (pss_cons (ps_if (pt_cmpR op_eq (pv 3) pe_int (nomark _))
 (pss_one (ps_ret (pe_callTy call_list_of (by rfl) Y.list (by decide +kernel) (pa_cons (pv 1) pa_nil))))
 pss_nil)
 (pss_cons (ps_if (pt_cmpR op_eq (pv 3) pe_int (nomark _))
 (pss_one (ps_ret (pe_callF G_law_odd (hr.mono (by decide)) (by rfl) pass0 (pa_cons (pv 0) pa_nil))))
 pss_nil)
 (pss_one (ps_ret (pe_op op_sum (pe_op op_sum (pe_slice sl_cutA (pv 1) po_none (po_some (pv 2))) (pe_tupZ (pa_cons (pe_ifExp (pt_cmpR op_eq (pv 3) pe_int (nomark _)) (pe_callF G_law_odd (hr.mono (by decide)) (by rfl) pass0 (pa_cons (pv 0) pa_nil)) (pe_ix ix_tup (pv 1) (pe_un un_neg pe_int) (fun _ _ => rfl))) pa_nil))) (pe_slice sl_cutA (pv 1) (po_some (pe_op op_add (pv 2) pe_int)) po_none))))))))), ?_⟩
    have el := qd.len
    have tk : ∀ k, ∀ p ∈ ds.take k, A0 p ∧ oks p = true := fun k p hp => pa p (List.mem_of_mem_take hp)
    have dk : ∀ k, ∀ p ∈ ds.drop k, A0 p ∧ oks p = true := fun k p hp => pa p (List.mem_of_mem_drop hp)
    have app : ∀ {as bs : List PyData}, (∀ p ∈ as, A0 p ∧ oks p = true) → (∀ p ∈ bs, A0 p ∧ oks p = true) → ∀ p ∈ as ++ bs, A0 p ∧ oks p = true := fun h1 h2 p hp => (List.mem_append.mp hp).elim (h1 p) (h2 p)
    refine ⟨_, rfl, _, rfl, ta, _, rfl, .inr tz.sq, r, _, rfl, R, by omega, by omega, fun H1 d1 b1 R1 d10 d11 => ?_⟩
    obtain ⟨i, rfl⟩ := Int.eq_ofNat_of_zero_le d10
    have tz := tz.but R b1
    have qd := qd.but b1
    refine ⟨_, rfl, r, 6, rfl, R1, by decide, by decide, fun H2 d2 b2 R2 d20 d21 => ?_⟩
    have tz := tz.but R1 b2
    have qd := qd.but b2
    have b0 := b1.trans b2
    have R := R2
    have eT : cutV xs none (some (i : Int)) = xs.take i := cut_take xs i
    have eD : cutV xs (some (i : Int)) none = xs.drop i := cut_drop xs i
    have eD1 : cutV xs (some ((i : Int) + 1)) none = xs.drop (i + 1) := cut_dropI xs i
    refine ⟨_, _, rfl, ?_⟩
    refine ⟨_, rfl, rfl, _, rfl, ite2 (fun c0 => ?_) (fun c0 => ?_)⟩
    · refine ⟨_, rfl, _, rfl, _, rfl, ta, _, rfl, tz, And.symm (rcut_of tz eT fun t3 H3 s3 z3 => ?_)⟩
      refine ⟨_, rfl, _, rfl, _, _, rfl, rfl, _, rfl, ta, _, rfl, tz.same s3, And.symm (rcut_of (tz.same s3) eD1 fun t4 H4 s4 z4 => ?_)⟩
      refine ⟨t3, t4, _, _, rfl, rfl, z3.same s4, z4, (by rw [List.length_take, List.length_drop]; exact le200 (by omega)), rot3 (sum_of (z3.same s4) z4 fun t5 H5 s5 z5 => ?_)⟩
      have s25 := s3.trans (s4.trans s5)
      have R5 := R.same s25
      exact q _ _ (.tuple (ds.take i ++ ds.drop (i + 1))) (b0.trans (But.of s25)) R5 (.tup R5 z5 (((qd.take i).app (qd.drop (i + 1))).same s25)) (tup_bd (app (tk i) (dk (i + 1))) (by rw [List.length_append, List.length_take, List.length_drop]; omega))
    refine ⟨_, rfl, rfl, _, rfl, ite2 (fun c1 => ?_) (fun c1 => ?_)⟩
    · refine ⟨_, rfl, _, rfl, _, rfl, ta, _, rfl, tz, And.symm (rcut_of tz eT fun t3 H3 s3 z3 => ?_)⟩
      have eM : cutV xs (some (i : Int)) (some ((i : Int) + 1)) = (xs.drop i).take 1 := by
        have hi : i < xs.length := by omega
        unfold cutV
        rw [show (some ((i : Int) + 1)) = some (((i + 1 : Nat)) : Int) from rfl, HT.sIx_nat, HT.sIx_nat, Nat.min_eq_left (by omega), Nat.min_eq_left (by omega), show i + 1 - i = 1 by omega]
      refine ⟨_, rfl, _, rfl, _, rfl, _, rfl, _, _, rfl, rfl, _, rfl, ta, _, rfl, tz.same s3, And.symm (rcut_of (tz.same s3) eM fun t4 H4 s4 z4 => ?_)⟩
      refine ⟨t3, t4, _, _, rfl, rfl, z3.same s4, z4, (by rw [List.length_take, List.length_take, List.length_drop]; exact le200 (by omega)), rot3 (sum_of (z3.same s4) z4 fun t5 H5 s5 z5 => ?_)⟩
      have s25 := s3.trans (s4.trans s5)
      refine ⟨_, rfl, _, rfl, _, rfl, ta, _, rfl, tz.same s25, And.symm (rcut_of (tz.same s25) eD fun t6 H6 s6 z6 => ?_)⟩
      refine ⟨t5, t6, _, _, rfl, rfl, z5.same s6, z6, (by rw [List.length_append, List.length_take, List.length_take, List.length_drop]; exact le200 (by omega)), rot3 (sum_of (z5.same s6) z6 fun t7 H7 s7 z7 => ?_)⟩
      have s27 := s25.trans (s6.trans s7)
      have R7 := R.same s27
      exact q _ _ (.tuple (ds.take i ++ (ds.drop i).take 1 ++ ds.drop i)) (b0.trans (But.of s27)) R7 (.tup R7 z7 ((((qd.take i).app ((qd.drop i).take 1)).app (qd.drop i)).same s27)) (tup_bd (app (app (tk i) (fun p hp => dk i p (List.mem_of_mem_take hp))) (dk i)) (by rw [List.length_append, List.length_append, List.length_take, List.length_take, List.length_drop]; omega))
    refine ⟨_, rfl, rfl, _, rfl, ite2 (fun c2 => ?_) (fun c2 => ?_)⟩
    · refine ⟨_, rfl, ta, _, rfl, .inr tz.sq, fun l3' n3 => ?_⟩
      have ne3 := R.ne n3
      generalize hg : upd _ l3' _ = H3
      obtain ⟨s3, g3⟩ := upd_new hg n3
      clear hg
      exact q _ _ (.list ds) (b0.trans (But.of s3)) (R.same s3) (.lst ne3 g3 (qd.same s3)) ⟨(Bd.lst (n := 1) (W := 120) (L := 5) (fun p hp => (pa p hp).1) (by omega) (by decide)).mono (by decide) (by decide), okss_of fun p hp => (pa p hp).2⟩
    refine ⟨_, rfl, rfl, _, rfl, ite2 (fun c3 => ?_) (fun c3 => ?_)⟩
    · refine ⟨_, rfl, r, rfl, R, fun H3 v d b3 R3 dv od => ?_⟩
      exact q _ v d (b0.trans b3) R3 dv ⟨od.bd.mono (by decide) (by decide), od.ok⟩
    refine ⟨_, rfl, _, rfl, _, rfl, ta, _, rfl, tz, And.symm (rcut_of tz eT fun t3 H3 s3 z3 => ?_)⟩
    have R3 := R.same s3
    have tz3 := tz.same s3
    have qd3 := qd.same s3
    have fin : ∀ (H4 : Hp) (v : V) (d : PyData), But r H3 H4 → Rng H4 r → Db K r H4 v d → A0 d → ∃ t6 H6, Same H4 H6 ∧ True := fun H4 v d _ _ _ _ => ⟨0, H4, Same.refl _, trivial⟩
    clear fin
    refine ⟨_, rfl, rfl, _, rfl, ite2 (fun c4 => ?A) (fun c4 => ?B)⟩
    case' A =>
      refine ⟨_, rfl, r, rfl, R3, fun H4 v d b4 R4 dv od => ?_⟩
      have av := (⟨od.bd, od.ok⟩ : A0 d ∧ oks d = true)
      have z3 := z3.but R3 b4
      have tz4 := tz3.but R3 b4
      have qd4 := qd3.but b4
      have b04 := (b0.trans (But.of s3)).trans b4
    case' B =>
      obtain ⟨v, ev⟩ : ∃ v, atI xs (-1) = some v := by
        have hx : 0 < xs.length := by omega
        exact ⟨_, by
          have := List.dropLast_concat_getLast (l := xs) (fun z => by rw [z] at hx; cases hx)
          conv => lhs; rw [← this]
          exact atI_last _ _⟩
      have mv : v ∈ xs := by
        unfold atI at ev
        cases e : ixN xs.length (-1) with
        | none =>
          rw [e] at ev
          cases ev
        | some j =>
          rw [e] at ev
          exact List.mem_of_getElem? ev
      obtain ⟨d, md, dv⟩ := qd3.mem mv
      refine ⟨_, rfl, 1, rfl, ta, _, _, v, rfl, rfl, tz3.sq, ev, ?_⟩
      have av := pa d md
      have H4 := H3
      have R4 := R3
      have tz4 := tz3
      have qd4 := qd3
      have b04 := b0.trans (But.of (r := r) s3)
    all_goals
      refine ⟨(by show 1 ≤ sizeLine; decide), fun t5 o5 n5 s5 z5 => ?_⟩
      generalize upd _ t5 o5 = H5 at s5 z5 ⊢
      refine ⟨t3, t5, _, _, rfl, rfl, z3.same s5, z5, (by rw [List.length_take]; exact le200 (by show _ + 1 ≤ _; omega)), rot3 (sum_of (z3.same s5) z5 fun t6 H6 s6 z6 => ?_)⟩
      have s46 := s5.trans s6
      refine ⟨_, rfl, _, rfl, _, _, rfl, rfl, _, rfl, ta, _, rfl, tz4.same s46, And.symm (rcut_of (tz4.same s46) eD1 fun t7 H7 s7 z7 => ?_)⟩
      refine ⟨t6, t7, _, _, rfl, rfl, z6.same s7, z7, (by rw [List.length_append, List.length_take, List.length_drop]; exact le200 (by show _ + 1 + _ ≤ _; omega)), rot3 (sum_of (z6.same s7) z7 fun t8 H8 s8 z8 => ?_)⟩
      have s48 := s46.trans (s7.trans s8)
      have R8 := R4.same s48
      exact q _ _ (.tuple (ds.take i ++ [d] ++ ds.drop (i + 1))) (b04.trans (But.of s48)) R8 (.tup R8 z8 ((((qd4.take i).app (.cons dv .nil)).app (qd4.drop (i + 1))).same s48)) (tup_bd (app (app (tk i) (fun p hp => by rw [List.mem_singleton.mp hp]; exact av)) (dk (i + 1))) (by rw [List.length_append, List.length_append, List.length_take, List.length_drop]; show _ + 1 + _ ≤ _; omega))
end
end My

/-! Defs that are called with keywords. -/
namespace My
open PySem PySem.Spec PyProof.Rows L2 Gy Xl Xs Xt
/-- a def of the top: n values by position, keywords ks; gV puts them into the parameters' order -/
structure Fw (P : Program) (w : World) (K : PySem.W.Frag) (mg : Str → Option Value) (base : Heap) (CX : CXT) (k : Nat) (nm : Str) (ps : List Str) (n : Nat) (ks : List Str) (gV : List V → List V → List V) (sp : Sp) : Prop where
  ex : ∃ (f : Addr) (fd : FuncData) (g : List Value → List Value → List Value), mg nm = some (.ref f) ∧ PySem.W.keepIn K (.ref f) = true ∧ KBn K fd ps n ks g gV ∧ FnOk P w K mg base CX k f fd ps sp
section
variable {X : Cx} {CX : CXT} {k n : Nat} {ps ks : List Str} {sp : Sp} {E : XK} {x : Str} {p pos : Pos} {e : Expr} {es : List Expr} {kws : List Keyword} {t tk : TA} {gV : List V → List V → List V}
theorem pe_callNF (F : Fw X.prog X.w X.K X.mg X.base CX k x ps n ks gV sp) (hr : Room k X.A) (hg : Gl X x) (hx : Passes CX X E) (ha : PA X (e :: es) t) (hkw : PK X kws tk)
    (hall : (backToKw pos (keywordEach kws X.env)).all (·.1.isSome) = true := by rfl) (hks : (backToKw pos (keywordEach kws X.env)).filterMap (·.1) = ks := by rfl) (hdb : (x == ("__debug__" : Str)) = false := by decide)
    (he : starEach (e :: es) X.env = (false, eval e X.env) :: starEach es X.env := by rfl) (hpl : ((backTo pos (starEach (e :: es) X.env)).any (·.1) || (backToKw pos (keywordEach kws X.env)).any (·.1.isNone)) = false := by rfl) :
    PE X (.Call (.Name x p) (e :: es) kws pos) (tCallN n ks.length sp gV E t tk) := by
  obtain ⟨f, fd, g, m, kp, b, G⟩ := F.ex
  exact pe_callN G hr hg m kp b hx ha hkw hall hks hdb he hpl
/-- f(k = v, ..) -/
def tCall0 (m : Nat) (sp : Sp) (gV : List V → List V → List V) (E : XK) (tk : TA) : TE := fun σ H Q => tk σ H fun zs H2 => zs.length = m ∧ sp (gV [] zs) H2 Q E
theorem pe_call0F (F : Fw X.prog X.w X.K X.mg X.base CX k x ps 0 ks gV sp) (hr : Room k X.A) (hg : Gl X x) (hx : Passes CX X E) (hkw : PK X kws tk)
    (hall : (backToKw pos (keywordEach kws X.env)).all (·.1.isSome) = true := by rfl) (hks : (backToKw pos (keywordEach kws X.env)).filterMap (·.1) = ks := by rfl) (hdb : (x == ("__debug__" : Str)) = false := by decide)
    (hpl : ((backTo pos (starEach [] X.env)).any (·.1) || (backToKw pos (keywordEach kws X.env)).any (·.1.isNone)) = false := by rfl) :
    PE X (.Call (.Name x p) [] kws pos) (tCall0 ks.length sp gV E tk) := by
  obtain ⟨f, fd, g, m, kp, b, G⟩ := F.ex
  constructor
  intro pins s σ H Q I h
  refine wpAny_Call_Name_kw (ld_glob I hg m ?_ hdb)
  refine PySem.W.callWith_KW0 (h₀ := X.base) I.ok.mod.kin kp hall (thn (hkw.run pos pins s σ H _ I h) ?_) hpl
  rintro ws s2 ⟨zs, H2, I2, rz, l2, q2⟩
  rw [hks]
  exact ⟨I2.kIn, run_fnN (us := []) G hr b hx I2 .nil rz rfl l2 q2⟩
end
theorem vals_back : ∀ {xs : List V} {us : List Value}, Vals xs us → Vals xs.reverse us.reverse
  | _, _, .nil => .nil
  | _, _, .cons h t => by
    rw [List.reverse_cons, List.reverse_cons]
    exact (vals_back t).append (.cons h .nil)
/-- the keywords in the parameters' order, or turned about -/
theorem kbn_fwd {K : PySem.W.Frag} {x qual : Str} {st : Stmt} {f : Addr} {fd : FuncData} {ps ks : List Str} {n : Nat} (F : Fun K x qual st f fd)
    (h : ∀ (kV doc pm : Value) (an : Option Addr) (cdv ct : Value) (us ws : List Value), us.length = n → ws.length = ks.length → bindArgs (PySem.W.fnOf x qual (defArgs st) (defBody st) (defScope st) .none kV doc pm an cdv ct) ⟨us, ks.zip ws⟩ = pure (ps.zip (us ++ ws))) :
    KBn K fd ps n ks (fun us ws => us ++ ws) (fun vs zs => vs ++ zs) := by
  obtain ⟨oc, od, kV, doc, pm, an, cdv, ct, osl, rfl, lk, hcd⟩ := F.ex
  exact ⟨fun s us ws _ h1 h2 => .of_eq (h kV doc pm an cdv ct us ws h1 h2), fun r z => r.append z⟩
theorem kbn_back {K : PySem.W.Frag} {x qual : Str} {st : Stmt} {f : Addr} {fd : FuncData} {ps ks : List Str} {n : Nat} (F : Fun K x qual st f fd)
    (h : ∀ (kV doc pm : Value) (an : Option Addr) (cdv ct : Value) (us ws : List Value), us.length = n → ws.length = ks.length → bindArgs (PySem.W.fnOf x qual (defArgs st) (defBody st) (defScope st) .none kV doc pm an cdv ct) ⟨us, ks.zip ws⟩ = pure (ps.zip (us ++ ws.reverse))) :
    KBn K fd ps n ks (fun us ws => us ++ ws.reverse) (fun vs zs => vs ++ zs.reverse) := by
  obtain ⟨oc, od, kV, doc, pm, an, cdv, ct, osl, rfl, lk, hcd⟩ := F.ex
  exact ⟨fun s us ws _ h1 h2 => .of_eq (h kV doc pm an cdv ct us ws h1 h2), fun r z => r.append (vals_back z)⟩
end My

/-! An own exception of two fields raised; a call of what a subscript gives. -/
namespace Xl
open PySem PySem.Spec PyProof.Rows L2 Gy
def spI2 (C : Addr) (f1 f2 : Str) : Sp := fun vs H Q _ => ∃ (a : Addr) (v1 v2 : V), vs = [.ref a, v1, v2] ∧ H a = some (exo a C none) ∧
  ∀ dx, H dx = none → dx ≠ a → Q .non (upd (upd (upd H dx (exd dx [(f1, v1)])) a (exo a C (some dx))) dx (exd dx [(f2, v2), (f1, v1)]))
theorem del_made2 {H : Hp} {a dx C : Addr} {f1 f2 : Str} {v1 v2 : V} (n : H a = none) (ne : dx ≠ a) :
    upd (del (upd (upd (upd (upd H a (exo a C none)) dx (exd dx [(f1, v1)])) a (exo a C (some dx))) dx (exd dx [(f2, v2), (f1, v1)])) a) dx (.xd [(f2, v2), (f1, v1)]) = upd H dx (.xd [(f2, v2), (f1, v1)]) := by
  funext b
  by_cases h1 : b = dx
  · rw [h1, upd_same, upd_same]
  · rw [upd_ne h1, upd_ne h1]
    by_cases h2 : b = a
    · rw [h2, del_same, n]
    · rw [del_ne h2, upd_ne h1, upd_ne h2, upd_ne h1, upd_ne h2]
section
variable {X : Cx} {C fI : Addr} {fd : FuncData} {f1 f2 x : Str} {e e2 : Expr} {p pos : Pos}
/-- C(e, e2), to be raised -/
def tMk2 (C : Addr) (f1 f2 : Str) (t : TA) : L2.St → Hp → XK → Prop := fun σ H Q => t σ H fun vs H1 => ∃ v1 v2, vs = [v1, v2] ∧ ∀ d, H1 d = none → Q (.ref C) (some d) (upd H1 d (.xd [(f2, v2), (f1, v1)]))
theorem pmk_x2 {t : TA} (T : XIn X.K C fI) (ty : PySem.W.typeIn X.K (.ref C) = some (.type "type")) (F : FnOk X.prog X.w X.K X.mg X.base CX0 1 fI fd ["self", f1, f2] (spI2 C f1 f2)) (hr : Room 2 X.A)
    (hb : XB X.K fd ["self", f1, f2] [] (fun us _ => us) (fun vs _ => vs)) (hg : Gl X x) (hm : X.mg x = some (.ref C)) (ha : PA X [e, e2] t)
    (hdb : (x == ("__debug__" : Str)) = false := by decide) (hst : starEach [e, e2] X.env = (false, eval e X.env) :: starEach [e2] X.env := by rfl) (hpl : (backTo pos (starEach [e2] X.env)).any (·.1) = false := by rfl) :
    PMk X (.Call (.Name x p) [e, e2] [] pos) (tMk2 C f1 f2 t) := by
  intro pins s σ H Q I h
  refine wpAny_Call_Name_kw (ld_glob I hg hm ?_ hdb)
  refine PySem.W.callWith_K (h₀ := X.base) I.ok.mod.kin T.kp (thn (ha.run pos pins s σ H _ I h) ?_) hst hpl
  rintro us s1 ⟨vs, H1, I1, r1, v1, v2, rfl, q1⟩
  refine ⟨I1.kIn, ?_⟩
  show wpAny _ _ (call (.ref C) us) _ _ _
  obtain ⟨B, nI, iI, bmB, BF, _, ii, _⟩ := T.base
  obtain ⟨nm, N', qn, bs, bm, hdct, sn, sub, ab, col, dd, k0, k1, k2, k3, k5, cl, hT⟩ := PySem.W.excInit_of I1.kIn ii
  obtain ⟨hp, g', dr, tk', os⟩ := s1
  have big : hp.objs.size ≤ hp.objs.size + 1 := Nat.le_succ _
  have na : H1 (hp.objs.size + 1) = none := I1.hok.fresh big
  have keep : ∀ b o, hp.get? b = some o → ((hp.push (PySem.W.kdv_tup us)).push (PySem.PX.excO C hp.objs.size)).get? b = some o := fun b o e =>
    Heap.get?_push_of_some _ (Heap.get?_push_of_some _ e)
  have new : ((hp.push (PySem.W.kdv_tup us)).push (PySem.PX.excO C hp.objs.size)).get? (hp.objs.size + 1) = some (PySem.PX.excO C hp.objs.size) := by heap_get
  have I2 := I1.laid (t' := tk') (a := hp.objs.size + 1) (o := exo (hp.objs.size + 1) C none) keep big (exo_ok new)
  have r2 : Vals [V.ref (hp.objs.size + 1), v1, v2] (Value.ref (hp.objs.size + 1) :: us) := .cons rfl r1
  have hq : spI2 C f1 f2 [V.ref (hp.objs.size + 1), v1, v2] (upd H1 (hp.objs.size + 1) (exo (hp.objs.size + 1) C none))
      (fun r H2 => r = .non ∧ ∃ dx, dx ≠ hp.objs.size + 1 ∧ upd H1 (hp.objs.size + 1) (exo (hp.objs.size + 1) C none) dx = none ∧
        H2 = upd (upd (upd (upd H1 (hp.objs.size + 1) (exo (hp.objs.size + 1) C none)) dx (exd dx [(f1, v1)])) (hp.objs.size + 1) (exo (hp.objs.size + 1) C (some dx))) dx (exd dx [(f2, v2), (f1, v1)])) (fun _ _ _ => False) :=
    ⟨_, v1, v2, rfl, upd_same, fun dx nd ne => ⟨rfl, dx, ne, nd, rfl⟩⟩
  have bl := hb.to ⟨_, g', dr, tk', os⟩ (Value.ref (hp.objs.size + 1)) us [] I2.kIn (by rw [← r2.length]; rfl)
  refine wpAny_call (PySem.Xg.kw_call BF hT cl (PySem.W.looks_findIn I1.kIn T.ini) (fun self => PySem.W.bind_fn I1.kIn self T.tf) ?_ (codeAny_mono (F.run _ X.stack _ _ _ _ _ _ _ (hr.make C us []) (I2.env0.make C us []) bl r2 hq) ?_))
  · rw [← r1.length, sizeLine_eq]
    show 2 ≤ 16777216
    decide
  · rintro (er | (_ | _ | _ | u)) s' z
    · exact (show False from z).elim
    · exact z.elim
    · exact z.elim
    · exact z.elim
    · obtain ⟨r, H2, os2, bare2, un2, hok2, rv, er, dx, ne, nd, e2⟩ := z
      subst er
      obtain ⟨h2, g2, d2, t2, os'⟩ := s'
      subst e2
      refine ⟨rv, mk_end (raises_own T.ex ty) I1 big keep un2 hok2 os2 bare2 ((upd_ne ne.symm).trans upd_same) upd_same ((upd_ne ne).symm.trans nd) ?_⟩
      rw [del_made2 na ne]
      exact q1 dx ((upd_ne ne).symm.trans nd)
/-- raise C(e, e2) -/
theorem ps_raise2 {W : WX} {t : TA} {rp : Pos} (hc : X.calm = true) (tk : Takes X W) (T : XIn X.K C fI) (ty : PySem.W.typeIn X.K (.ref C) = some (.type "type")) (F : FnOk X.prog X.w X.K X.mg X.base CX0 1 fI fd ["self", f1, f2] (spI2 C f1 f2)) (hr : Room 2 X.A)
    (hb : XB X.K fd ["self", f1, f2] [] (fun us _ => us) (fun vs _ => vs)) (hg : Gl X x) (hm : X.mg x = some (.ref C)) (ha : PA X [e, e2] t)
    (hdb : (x == ("__debug__" : Str)) = false := by decide) (hst : starEach [e, e2] X.env = (false, eval e X.env) :: starEach [e2] X.env := by rfl) (hpl : (backTo pos (starEach [e2] X.env)).any (·.1) = false := by rfl) :
    PS X (.Raise (some (.Call (.Name x p) [e, e2] [] pos)) none rp) (fun _ σ H => tMk2 C f1 f2 t σ H fun cls d H' => W cls d σ H') :=
  ps_raise hc tk (pmk_x2 T ty F hr hb hg hm ha hdb hst hpl)
end
end Xl
namespace My
open PySem PySem.Spec PyProof.Rows L2 Gy Xl Xs Xt
/-- a class of errors with two fields: raised -/
structure Rz2 (P : Program) (w : World) (K : PySem.W.Frag) (mg : Str → Option Value) (base : Heap) (nm f1 f2 : Str) (C : Addr) : Prop where
  gm : mg nm = some (.ref C)
  ty : PySem.W.typeIn K (.ref C) = some (.type "type")
  ex : ∃ (fI : Addr) (fd : FuncData), XIn K C fI ∧ FnOk P w K mg base CX0 1 fI fd ["self", f1, f2] (spI2 C f1 f2) ∧ XB K fd ["self", f1, f2] [] (fun us _ => us) (fun vs _ => vs)
/-- what is wanted where C(v1, v2) is raised -/
def Ro2 (E : XK) (C : Addr) (f1 f2 : Str) (v1 v2 : V) (H : Hp) : Prop := ∀ H' dx, Same H H' → H' dx = some (.xd [(f2, v2), (f1, v1)]) → E (.ref C) (some dx) H'
theorem Ro2.same {E : XK} {C : Addr} {f1 f2 : Str} {v1 v2 : V} {H H1 : Hp} (h : Ro2 E C f1 f2 v1 v2 H) (s : Same H H1) : Ro2 E C f1 f2 v1 v2 H1 := fun H' dx s1 e => h H' dx (s.trans s1) e
/-- xs[i](e, ..): one of several defs -/
def tCallIx (S : Addr → Option Sp) (tf : TE) (t : TA) : TE := fun σ H Q => tf σ H fun v H1 => ∃ f sp, v = .ref f ∧ S f = some sp ∧ t σ H1 fun vs H2 => sp vs H2 Q (fun _ _ _ => False)
theorem pe_callIx {X : Cx} {k : Nat} {S : Addr → Option Sp} {a b e : Expr} {es : List Expr} {tf : TE} {t : TA} {p pos : Pos} (A : ∀ f sp, S f = some sp → Held X.prog X.w X.K X.mg X.base k f sp) (hr : Room k X.A) (hf : PE X (.Subscript a b p) tf) (ha : PA X (e :: es) t)
    (he : starEach (e :: es) X.env = (false, eval e X.env) :: starEach es X.env := by rfl) (hpl : (backTo pos (starEach es X.env)).any (·.1) = false := by rfl) : PE X (.Call (.Subscript a b p) (e :: es) [] pos) (tCallIx S tf t) := by
  refine ⟨fun pins s σ H Q I h => ?_⟩
  rw [show eval (.Call (.Subscript a b p) (e :: es) [] pos) X.env = (do callWith pos (← eval (.Subscript a b p) X.env) [] (backTo pos (starEach (e :: es) X.env)) (backToKw pos (keywordEach [] X.env))) from rfl]
  refine wpAny_bind (thn (hf.run pins s σ H _ I h) fun u s1 ⟨v, H1, I1, r1, f, sp, ev, hS, q1⟩ => ?_)
  subst ev
  cases r1
  obtain ⟨fd, ps, F, hk, hb⟩ := (A f sp hS).ex
  refine PySem.W.callWith_K (h₀ := X.base) I.ok.mod.kin hk (thn (ha.run pos pins s1 σ _ _ I1 q1) fun us s2 ⟨vs, H2, I2, r, q⟩ => ⟨I2.kIn, ?_⟩) he hpl
  have q' : sp (vs ++ []) H2 Q (fun _ _ _ => False) := by
    rw [List.append_nil]
    exact q
  exact run_fn F hr hb .nil (fun _ _ _ _ _ _ _ z => z.elim) I2 r q'
theorem Held.of {P : Program} {w : World} {K : PySem.W.Frag} {mg : Str → Option Value} {base : Heap} {k j : Nat} {f : Addr} {nm : Str} {ps : List Str} {sp : Sp} (F : Fk P w K mg base CX0 j nm ps sp) (h : j ≤ k) (m : mg nm = some (.ref f)) : Held P w K mg base k f sp := by
  obtain ⟨g, fd, m', kp, b, G⟩ := F.ex
  rw [m] at m'
  cases m'
  exact ⟨fd, ps, G.mono h, kp, b⟩
/-- f(e, ..) in a try -/
theorem pe_callSF {X : Cx} {CX : CXT} {k : Nat} {ps : List Str} {sp : Sp} {E : L2.St → XK} {x : Str} {p pos : Pos} {e : Expr} {es : List Expr} {t : TA} (F : Fk X.prog X.w X.K X.mg X.base CX k x ps sp) (hr : Room k X.A) (hg : Gl X x) (hx : ∀ σ, PassesAt CX X σ (E σ)) (ha : PA X (e :: es) t)
    (hdb : (x == ("__debug__" : Str)) = false := by decide) (he : starEach (e :: es) X.env = (false, eval e X.env) :: starEach es X.env := by rfl)
    (hpl : (backTo pos (starEach es X.env)).any (·.1) = false := by rfl) : PE X (.Call (.Name x p) (e :: es) [] pos) (tCallSD sp [] E t) := by
  obtain ⟨f, fd, m, kp, b, G⟩ := F.ex
  exact pe_callSD G hr hg m kp b .nil hx ha hdb he hpl
/-- what is known of a class of errors that is caught -/
structure Xc (K : PySem.W.Frag) (C R : Addr) : Prop where
  x : XCl K C
  em : PySem.W.exmOne K (.ref C) (.ref C) = some true
  ki : PySem.W.kitOne K (.ref C) (.ref R) = some true
theorem Xc.xf {K : PySem.W.Frag} {C R : Addr} (h : Xc K C R) : XfC K C := ⟨h.x.ga, h.x.gg, h.x.ex, h.x.hd⟩
/-- the class of an object, as the built-in isinstance asks for it -/
structure Cg (K : PySem.W.Frag) : Prop where
  cg : PySem.W.specialIn K (.builtin "object.__class__") "__get__" = some (some (.builtin "getset_descriptor.__get__"))
  ct : PySem.W.takesIn K (.builtin "object.__class__") = some true
end My

namespace My
open PySem PySem.Spec PyProof.Rows L2 Gy Xl Xs Xt
section
variable {X : Cx} {CX : CXT} {k : Nat} {ps ks : List Str} {sp : Sp} {E : L2.St → XK} {x : Str} {p pos : Pos} {kws : List Keyword} {tk : TA} {gV : List V → List V → List V}
/-- f(k = v, ..) in a try -/
def tCall0S (m : Nat) (sp : Sp) (gV : List V → List V → List V) (E : L2.St → XK) (tk : TA) : TE := fun σ H Q => tk σ H fun zs H2 => zs.length = m ∧ sp (gV [] zs) H2 Q (E σ)
theorem pe_call0SF (F : Fw X.prog X.w X.K X.mg X.base CX k x ps 0 ks gV sp) (hr : Room k X.A) (hg : Gl X x) (hx : ∀ σ, PassesAt CX X σ (E σ)) (hkw : PK X kws tk)
    (hall : (backToKw pos (keywordEach kws X.env)).all (·.1.isSome) = true := by rfl) (hks : (backToKw pos (keywordEach kws X.env)).filterMap (·.1) = ks := by rfl) (hdb : (x == ("__debug__" : Str)) = false := by decide)
    (hpl : ((backTo pos (starEach [] X.env)).any (·.1) || (backToKw pos (keywordEach kws X.env)).any (·.1.isNone)) = false := by rfl) :
    PE X (.Call (.Name x p) [] kws pos) (tCall0S ks.length sp gV E tk) := by
  obtain ⟨f, fd, g, m, kp, b, G⟩ := F.ex
  constructor
  intro pins s σ H Q I h
  refine wpAny_Call_Name_kw (ld_glob I hg m ?_ hdb)
  refine PySem.W.callWith_KW0 (h₀ := X.base) I.ok.mod.kin kp hall (thn (hkw.run pos pins s σ H _ I h) ?_) hpl
  rintro ws s2 ⟨zs, H2, I2, rz, l2, q2⟩
  rw [hks]
  refine ⟨I2.kIn, ?_⟩
  have r2 := b.rel .nil rz
  refine wpAny_call (codeAny_mono (G.run X.A X.stack s2 H2 ⟨[], ks.zip ws⟩ _ (gV [] zs) Q (E σ) hr I2.env0 (b.to s2 [] ws I2.kIn rfl (rz.length.symm.trans l2)) r2 q2) ?_)
  rintro (er | fl) s' hq
  · exact hx σ pins H2 s2 er s' I2 hq
  · cases fl with
    | ret u => exact I2.after hq
    | next => exact False.elim hq
    | brk => exact False.elim hq
    | cont => exact False.elim hq
end
/-- values that are tried -/
structure Sd (d : PyData) : Prop where
  bd : Bd 2 700 d
  ok : oks d = true
theorem Sd.st {d : PyData} (h : Sd d) (x : Str) (e : d = .str x) : x.length ≤ 640 := by
  subst e
  exact of_decide_eq_true h.bd.sm
theorem Od.sd {d : PyData} (h : Od d) : Sd d := ⟨h.bd.mono (by decide) (by decide), h.ok⟩
theorem sd_str {x : Str} (h : x.length ≤ 640) (o : Okt x) : Sd (.str x) := by
  exact ⟨(bd_ok h (Nat.le_refl _) o).mono (by decide) (by decide), oks_okt o⟩
theorem up_ok {x : Str} (o : Okt x) : Okt (Txt.upper x) ∧ (Txt.upper x).length = x.length := by
  have e : Txt.upper x = ⟨x.cps.map PyProof.Rows.up1⟩ := PyProof.Rows.upper_ascii fun c hc => o c hc
  rw [e]
  refine ⟨fun c hc => ?_, ?_⟩
  · have hc' : c ∈ (x.cps.map PyProof.Rows.up1).toList := hc
    rw [Array.toList_map] at hc'
    obtain ⟨d, hd, rfl⟩ := List.mem_map.mp hc'
    have z : ∀ d : Fin 128, PyProof.Rows.up1 d.val < 128 := by decide +kernel
    exact z ⟨d, o d hd⟩
  · show (x.cps.map PyProof.Rows.up1).size = x.cps.size
    rw [Array.size_map]
section
variable {P : Program} {w : World} {K : PySem.W.Frag} {mg : Str → Option Value} {base : Heap} {H : Hp}
def spTc (K : PySem.W.Frag) : Sp := fun vs H Q _ => ∃ (r : Addr) (x : Str), vs = [.ref r, .str x] ∧ Rng H r ∧ x.length ≤ 600 ∧ Okt x ∧ ∀ H' v d, But r H H' → Rng H' r → Db K r H' v d → Sd d → Q v H'
theorem ok_tc {f : Addr} {fd : FuncData} (F : Fun K "_law_text_changed" "_law_text_changed" s_law_text_changed f fd) (Y : Bn mg) (G_law_draw : Fk P w K mg base CX0 1 "_law_draw" ["_law_rng_here", "_law_many"] spDraw) (G_law_odd : Fk P w K mg base CX0 2 "_law_odd" ["_law_rng_here"] (spOdd K)) : FnOk P w K mg base CX0 3 f fd ["_law_rng_here", "_law_said"] (spTc K) := by
  refine F.ok sc_law_text_changed (fun vs H Q E h => ?_) (fun cdv A outer s H vs Q E hr h => ?_)
  · obtain ⟨r, x, rfl, _⟩ := h
    rfl
  · obtain ⟨r, x, rfl, R, l6, ox, q⟩ := h
    refine ⟨_, (pss_cons (ps_par (i := 2) (j := 3) (by rfl) sc_law_text_changed.nd rfl rfl (by decide) rfl rfl (pa_cons (pe_callF G_law_draw (hr.mono (by decide)) (by rfl) pass0 (pa_cons (pv 0) (pa_cons (pe_op op_add (pe_callB call_len_str (by rfl) Y.len PySem.boot_len (pa_cons (pv 1) pa_nil)) pe_int) pa_nil))) (pa_cons (pe_ix ix_str pe_str (pe_callF G_law_draw (hr.mono (by decide)) (by rfl) pass0 (pa_cons (pv 0) (pa_cons pe_int pa_nil))) (fun _ _ => rfl)) pa_nil)) (by rfl))
 (pss_cons (ps_set (i := 4) sc_law_text_changed.nd rfl (.inl rfl) (pe_lst (pa_cons (pe_op op_add_str (pe_op op_add_str (pe_slice sl_str (pv 1) po_none (po_some (pv 2))) (pv 3)) (pe_slice sl_str (pv 1) (po_some (pv 2)) po_none)) (pa_cons (pe_op op_add_str (pe_slice sl_str (pv 1) po_none (po_some (pv 2))) (pe_slice sl_str (pv 1) (po_some (pe_op op_add (pv 2) pe_int)) po_none)) (pa_cons (pe_op op_add_str (pe_op op_add_str (pe_slice sl_str (pv 1) po_none (po_some (pv 2))) (pv 3)) (pe_slice sl_str (pv 1) (po_some (pe_op op_add (pv 2) pe_int)) po_none)) (pa_cons (pe_op op_add_str (pv 1) pe_str) pa_nil))))))
 (pss_one (ps_ret (pe_ix ix_list (pe_op op_cat (pv 4) (pe_lst (pa_cons (pe_op op_add_str pe_str (pv 1)) (pa_cons (pe_op op_add_str (pv 1) pe_str) (pa_cons (pe_upper (pv 1)) (pa_cons (pe_callF G_law_odd (hr.mono (by decide)) (by rfl) pass0 (pa_cons (pv 0) pa_nil)) pa_nil)))))) (pe_callF G_law_draw (hr.mono (by decide)) (by rfl) pass0 (pa_cons (pv 0) (pa_cons pe_int pa_nil))) (fun _ _ => rfl)))))), ?_⟩
    refine ⟨_, rfl, _, rfl, _, rfl, le200 (by omega), _, 1, rfl, rfl, r, _, rfl, R, by omega, by omega, fun H1 d1 b1 R1 d10 d11 => ?_⟩
    refine ⟨_, rfl, r, 14, rfl, R1, by decide, by decide, fun H2 d2 b2 R2 d20 d21 => ?_⟩
    have sg : (" ,\n0129azAZ-+_" : Str).cps.toList.length = 14 ∧ ∀ c ∈ (" ,\n0129azAZ-+_" : Str).cps.toList, c < 128 := by decide +kernel
    obtain ⟨c, hc, mc⟩ := at_in (xs := (" ,\n0129azAZ-+_" : Str).cps.toList) d20 (by rw [sg.1]; exact d21)
    have oc := sign_ok (sg.2 c mc)
    refine ⟨_, _, c, rfl, rfl, (by decide), hc, ?_⟩
    refine ⟨_, _, rfl, ?_⟩
    have ct := cutT_len x d10
    have cf := cutF_len x d10
    have cf1 := cutF_len x (i := d1 + 1) (by omega)
    have l1 : (⟨#[c]⟩ : Str).length = 1 := rfl
    have b02 := b1.trans b2
    refine ⟨_, rfl, _, rfl, _, rfl, x, rfl, le200 (by omega), _, rfl, _, _, rfl, rfl, le200 (by omega), _, rfl, _, rfl, _, rfl, x, rfl, le200 (by omega), _, _, rfl, rfl, (by rw [len_app]; exact le200 (by omega)), ?_⟩
    refine ⟨_, rfl, _, rfl, _, rfl, x, rfl, le200 (by omega), _, rfl, _, rfl, _, _, rfl, rfl, _, rfl, x, rfl, le200 (by omega), _, _, rfl, rfl, le200 (by omega), ?_⟩
    refine ⟨_, rfl, _, rfl, _, rfl, x, rfl, le200 (by omega), _, rfl, _, _, rfl, rfl, le200 (by omega), _, rfl, _, rfl, _, _, rfl, rfl, _, rfl, x, rfl, le200 (by omega), _, _, rfl, rfl, (by rw [len_app]; exact le200 (by omega)), ?_⟩
    refine ⟨_, rfl, _, _, rfl, rfl, le200 (by show _ + 1 ≤ _; omega), ?_⟩
    refine ⟨(by show 4 ≤ sizeLine; decide), fun l3 n3 => ?_⟩
    have ne3 := R2.ne n3
    generalize hg : upd _ l3 _ = H3
    obtain ⟨s3, g3⟩ := upd_new hg n3
    clear hg
    have R3 := R2.same s3
    have up := up_ok ox
    refine ⟨_, rfl, _, rfl, _, _, rfl, rfl, le200 (by show 1 + _ ≤ _; omega), ?_⟩
    refine ⟨_, rfl, _, _, rfl, rfl, le200 (by show _ + 1 ≤ _; omega), ?_⟩
    refine ⟨_, rfl, ⟨_, rfl⟩, x, rfl, rfl, by omega, ?_⟩
    refine ⟨_, rfl, r, rfl, R3, fun H4 vo dO b4 R4 dvo od => ?_⟩
    refine ⟨(by show 4 ≤ sizeLine; decide), fun l5 n5 => ?_⟩
    generalize hg : upd _ l5 _ = H5
    obtain ⟨s5, g5⟩ := upd_new hg n5
    clear hg
    refine ⟨l3, l5, _, _, rfl, rfl, s5 _ _ (b4 _ _ ne3 g3), g5, (by show 4 + 4 ≤ sizeLine; decide), fun l6' n6 => ?_⟩
    have R5 := R4.same s5
    have ne6 := R5.ne n6
    generalize hg : upd _ l6' _ = H6
    obtain ⟨s6, g6⟩ := upd_new hg n6
    clear hg
    have R6 := R5.same s6
    have dvo := (dvo.same s5).same s6
    refine ⟨_, rfl, r, 8, rfl, R6, by decide, by decide, fun H7 e b7 R7 e0 e1 => ?_⟩
    have g7 := b7 _ _ ne6 g6
    obtain ⟨v, hv, mv⟩ := at_inL g7 rfl e0 e1
    refine ⟨l6', _, e, v, rfl, rfl, SqL.of g7, hv, ?_⟩
    have dvo := dvo.but b7
    have each : ∃ d, Sd d ∧ Db K r H7 v d := by
      simp only [List.cons_append, List.nil_append, List.mem_cons, List.not_mem_nil, or_false] at mv
      rcases mv with rfl | rfl | rfl | rfl | rfl | rfl | rfl | rfl
      · exact ⟨_, sd_str (by rw [len_app, len_app]; omega) (((ox.cut _ _).app oc).app (ox.cut _ _)), .str _⟩
      · exact ⟨_, sd_str (by rw [len_app]; omega) ((ox.cut _ _).app (ox.cut _ _)), .str _⟩
      · exact ⟨_, sd_str (by rw [len_app, len_app]; omega) (((ox.cut _ _).app oc).app (ox.cut _ _)), .str _⟩
      · exact ⟨_, sd_str (by rw [len_app]; show _ + 1 ≤ _; omega) (ox.app (by unfold Okt; decide +kernel)), .str _⟩
      · exact ⟨_, sd_str (by rw [len_app]; show 1 + _ ≤ _; omega) (Okt.app (by unfold Okt; decide +kernel) ox), .str _⟩
      · exact ⟨_, sd_str (by rw [len_app]; show _ + 1 ≤ _; omega) (ox.app (by unfold Okt; decide +kernel)), .str _⟩
      · exact ⟨_, sd_str (by rw [up.2]; omega) up.1, .str _⟩
      · exact ⟨dO, od.sd, dvo⟩
    obtain ⟨d, sd, dv⟩ := each
    exact q _ v d (b02.trans ((But.of s3).trans (b4.trans ((But.of (s5.trans s6)).trans b7)))) R7 dv sd
end
end My

namespace My
open PySem PySem.Spec PyProof.Rows L2 Gy Xl Xs Xt
structure X93 (K : PySem.W.Frag) (C T R N : Addr) : Prop where
  xC : XCl K C
  xT : XCl K T
  mCC : PySem.W.exmOne K (.ref C) (.ref C) = some true
  mTC : PySem.W.exmOne K (.ref T) (.ref C) = some false
  mTT : PySem.W.exmOne K (.ref T) (.ref T) = some true
  kCR : PySem.W.kitOne K (.ref C) (.ref R) = some true
  kTR : PySem.W.kitOne K (.ref T) (.ref R) = some true
  kTN : PySem.W.kitOne K (.ref T) (.ref N) = some false
  fC : PySem.W.findIn K (.ref C) "value" = some none
  fT : PySem.W.findIn K (.ref T) "value" = some none
theorem xf_of {K : PySem.W.Frag} {C : Addr} (x : XCl K C) : XfC K C := ⟨x.ga, x.gg, x.ex, x.hd⟩
def spLaw (K : PySem.W.Frag) : Sp := fun vs H Q _ => ∃ (a : Addr) (ns : List Int), vs = [.ref a] ∧ SqL K H a (ns.map V.int) ∧ ns.length ≤ 63 ∧ ∀ H', Q (.bl true) H'
def T2 (a b : Str) : PyData := .tuple [.str a, .str b]
def reads : PyData → Option PyData
  | .str x => if isEv (evOf (Txt.split x " ")) = true then some (evOf (Txt.split x " ")) else none
  | _ => none
theorem reads_str (x : Str) : reads (.str x) = if isEv (evOf (Txt.split x " ")) = true then some (evOf (Txt.split x " ")) else none := rfl
def pr (a b : Str) : Str × Str := (a, b)
/-- what is told of a value as an event, and of a value as a text -/
def told0 (d : PyData) : Str × Str := if isEv d = true then pr "told" (PyData.str (evText d)).shown else pr "event" d.shown
def told1 (d : PyData) : Str × Str := match reads d with
  | some e => pr "told" e.shown
  | none => pr "text" d.shown
theorem told1_s {d e : PyData} (h : reads d = some e) : told1 d = pr "told" e.shown := by
  unfold told1
  rw [h]
theorem told1_n {d : PyData} (h : reads d = none) : told1 d = pr "text" d.shown := by
  unfold told1
  rw [h]
theorem told0_e {d : PyData} (h : isEv d = true) : told0 d = pr "told" (PyData.str (evText d)).shown := if_pos h
theorem told0_n {d : PyData} (h : isEv d = false) : told0 d = pr "event" d.shown := by
  unfold told0
  rw [if_neg (by rw [h]; decide)]
theorem reads_no {d : PyData} (h : ∀ x, d ≠ .str x) : reads d = none := by
  cases d with
  | str x => exact absurd rfl (h x)
  | _ => rfl
theorem ev_ok {d : PyData} (h : EvC d) (sm : sml d = true) : (evText d).length ≤ 6000 ∧ Okt (evText d) ∧ oks d = true ∧ Bd 2 20000 d := by
  cases h with
  | ask xs c l3 cl ah =>
    have ln := ask_len sm
    have hh : ∀ x ∈ xs, isHost (.str x) = true := hosts_in ah
    have jl : (Txt.join "," xs).length ≤ 660 * (8 + 1) := joinLen (fun x hx => (host_in (hh x hx)).2.1) ln rfl
    have lN : (numS c).length ≤ 4 := numS_len (by decide) (by show c < 10000; omega)
    refine ⟨?_, ?_, ?_, ?_⟩
    · unfold evText
      rw [evParts_ask, join3, len_app, len_app, len_app, len_app]
      show 3 + 1 + _ + 1 + _ ≤ _
      omega
    · unfold evText
      rw [evParts_ask]
      refine join_all (by decide +kernel) fun p hp => ?_
      simp only [List.mem_cons, List.not_mem_nil, or_false] at hp
      rcases hp with rfl | rfl | rfl
      · decide +kernel
      · exact join_all (by decide +kernel) fun x hx => (host_part (hh x hx)).2.2
      · exact num_lt
    · show (oks (.str "ask") && (okss (xs.map PyData.str) && (true && true))) = true
      rw [okss_of fun e he => by
        obtain ⟨x, hx, rfl⟩ := List.mem_map.mp he
        exact oks_okt (host_part (hh x hx)).2.2]
      decide +kernel
    · refine (Bd.tup (n := 1) (W := 5940) (L := 3) (fun e he => ?_) (Nat.le_refl _) (by decide)).mono (by decide) (by decide)
      simp only [List.mem_cons, List.not_mem_nil, or_false] at he
      rcases he with rfl | rfl | rfl
      · exact (bd_ok (n := 20) (x := "ask") (by decide) (by decide) (by unfold Okt; decide +kernel)).mono (by decide) (by decide)
      · refine Bd.tup (n := 0) (W := 8) (L := 660) (fun e he => ?_) (by rw [List.length_map]; exact ln) (by decide)
        obtain ⟨x, hx, rfl⟩ := List.mem_map.mp he
        exact bd_ok (host_in (hh x hx)).2.1 (by decide) (host_part (hh x hx)).2.2
      · exact (bd_nat (by omega)).mono (by decide) (by decide)
  | flat k ps hk l h =>
    have et : evText (.tuple (.str k :: ps.map PyData.str)) = Txt.join " " (k :: ps) := by
      unfold evText
      rw [← List.map_cons (f := PyData.str), evParts_flat]
    rw [et]
    refine ⟨?_, ?_, ?_, ?_⟩
    · exact Nat.le_trans (joinLen (m := 12) (n := 3) (fun p hp => (h p hp).2.1) (by rw [List.length_cons]; omega) rfl) (by decide)
    · exact join_all (by decide +kernel) fun p hp => (h p hp).2.2
    · rw [← List.map_cons (f := PyData.str)]
      exact okss_of fun e he => by
        obtain ⟨x, hx, rfl⟩ := List.mem_map.mp he
        exact oks_okt (h x hx).2.2
    · rw [← List.map_cons (f := PyData.str)]
      refine (Bd.tup (n := 0) (W := 12) (L := 3) (fun e he => ?_) (by rw [List.length_map, List.length_cons]; omega) (by decide)).mono (by decide) (by decide)
      obtain ⟨x, hx, rfl⟩ := List.mem_map.mp he
      exact bd_ok (h x hx).2.1 (by decide) (h x hx).2.2
theorem fits_str {x : Str} (l : x.length ≤ 6000) (o : Okt x) : Fits (.str x) := by
  refine ⟨rfl, Nat.zero_le _, ?_⟩
  have s := PyData.shown_le 40 (by decide) (.str x) (by
    show (x.cps.toList.all fun c => decide (c < 16 ^ 8)) = true
    exact List.all_eq_true.mpr fun d hd => decide_eq_true (Nat.lt_trans (o d hd) (by decide)))
  have wt : (PyData.str x).weight = x.length := rfl
  rw [wt] at s
  rw [sizeLine_eq]
  omega
theorem told0_ok {d : PyData} (h : Sd d) : PyData.strOk (told0 d).1 = true ∧ PyData.strOk (told0 d).2 = true := by
  unfold told0
  split
  · next c =>
    exact ⟨(by show PyData.strOk "told" = true; decide +kernel), oks.so (oks_okt (ev_ok (ev_cases c) h.bd.sm).2.1)⟩
  · exact ⟨(by show PyData.strOk "event" = true; decide +kernel), oks.so h.ok⟩
theorem reads_ok {d e : PyData} (h : Sd d) (r : reads d = some e) : EvC e ∧ sml e = true := by
  cases d with
  | str x =>
    rw [reads_str] at r
    split at r
    · next c =>
      injection r with r
      subst r
      exact ⟨ev_cases c, sml_tx (h.st x rfl)⟩
    · cases r
  | _ => cases r
theorem told1_ok {d : PyData} (h : Sd d) : PyData.strOk (told1 d).1 = true ∧ PyData.strOk (told1 d).2 = true := by
  cases e : reads d with
  | none =>
    rw [told1_n e]
    exact ⟨(by show PyData.strOk "text" = true; decide +kernel), oks.so h.ok⟩
  | some i =>
    rw [told1_s e]
    obtain ⟨a, b⟩ := reads_ok h e
    exact ⟨(by show PyData.strOk "told" = true; decide +kernel), oks.so (ev_ok a b).2.2.1⟩
theorem sh_list {a b c d : Str} (h1 : PyData.strOk a = true) (h2 : PyData.strOk b = true) (h3 : PyData.strOk c = true) (h4 : PyData.strOk d = true) : (PyData.list [T2 a b, T2 c d, T2 a b]).canLay0 = true ∧ SeqAt.shaped (.list [T2 a b, T2 c d, T2 a b]) = true := by
  have e : (PyData.list [T2 a b, T2 c d, T2 a b]).canLay0 = true := by
    show ((PyData.strOk a && (PyData.strOk b && true)) && ((PyData.strOk c && (PyData.strOk d && true)) && ((PyData.strOk a && (PyData.strOk b && true)) && true))) = true
    rw [h1, h2, h3, h4]
    rfl
  refine ⟨e, ?_⟩
  unfold SeqAt.shaped
  rw [e]
  rfl
section
variable {P : Program} {w : World} {K : PySem.W.Frag} {mg : Str → Option Value} {base : Heap} {H : Hp}
theorem dp_T2 {t : Addr} {a b : Str} (h : Tz H t [.str a, .str b]) : Dp K H (.ref t) (T2 a b) := .tup h.sq (.cons (.str _) (.cons (.str _) .nil))
def spTold93 (K : PySem.W.Frag) : Sp := fun vs H Q _ => ∃ (k : Int) (v : V) (d : PyData), vs = [.int k, v] ∧ (k = 0 ∨ k = 1) ∧ Dn K H v d ∧ Sd d ∧ (k = 0 → ∀ H' t, Same H H' → Tz H' t [.str (told0 d).1, .str (told0 d).2] → Q (.ref t) H') ∧ (k = 1 → ∀ H' t, Same H H' → Tz H' t [.str (told1 d).1, .str (told1 d).2] → Q (.ref t) H')
theorem ok_told {f C T R N : Addr} {fd : FuncData} (F : Fun K "_law_told" "_law_told" s_law_told f fd) (Y : Bn mg) (gC : mg "InvalidEvent" = some (.ref C)) (gT : mg "InvalidText" = some (.ref T)) (gR : mg "RelinkTreeError" = some (.ref R)) (gN : mg "InvalidLine" = some (.ref N)) (X : X93 K C T R N) (G : Cg K)
    (GK_event_text : Fw P w K mg base (L2.CX P w) 6 "event_text" ["event"] 0 ["event"] (fun vs zs => vs ++ zs) (spET K C)) (GK_parse_event : Fw P w K mg base (L2.CX P w) 6 "parse_event" ["text"] 0 ["text"] (fun vs zs => vs ++ zs) (spPE K T)) : FnG P w K mg base CX0 7 f fd ["_law_way", "_law_value"] (spTold93 K) := by
  refine fun_g0 F sc_law_told (fun {vs H Q E} h => ?_) (fun cdv A outer s H vs Q E gd hr h => ?_)
  · obtain ⟨k, v, d, rfl, _⟩ := h
    rfl
  · obtain ⟨k, v, d, rfl, k01, dn, sd, q0, q1⟩ := h
    have hu70 := Room.units70 hr
    refine ⟨_, pss_cons (ps_set (i := 2) sc_law_told.nd rfl (.inl rfl) (pe_tupZ (pa_cons pe_str (pa_cons pe_str pa_nil))))
      (pss_cons (ps_try_manyAs (i := 3) (n := "e") rfl rfl sc_law_told.nd rfl rfl takes0
        (fun W pn xe tk _ => pss_one (ps_set (i := 2) sc_law_told.nd rfl (.inl rfl) (pe_tupZ (pa_cons pe_str (pa_cons (pe_callB (show CallR _ (.builtin "repr") (rReprN K) from repr_dn gd hu70) (by rfl) Y.repr (by decide +kernel) (pa_cons (pe_ifExp (pt_cmpR op_eq (pv 0) pe_int (nomark _)) (pe_call0SF GK_event_text (hr.mono (by decide)) (by rfl) (fun σ => passAt tk σ) (pk_cons (pv 1) pk_nil)) (pe_call0SF GK_parse_event (hr.mono (by decide)) (by rfl) (fun σ => passAt tk σ) (pk_cons (pv 1) pk_nil))) pa_nil)) pa_nil)))))
        (.cons ⟨rfl, by decide, .inl gC⟩ (fun a oe cls d pn hz hf => pss_one (ps_set (i := 2) sc_law_told.nd rfl (.inl rfl) (pe_ifExp
            (pt_val (pe_callB (show CallR _ (.builtin "isinstance") (rIsS K a cls d) from call_isS G.cg G.ct hz hf) (by rfl) Y.isinstance (by decide +kernel) (pa_cons (pv 3) (pa_cons (pe_glob (v := .ref R) (by rfl) gR rfl) pa_nil))))
            (pe_tupZ (pa_cons pe_str (pa_cons (pe_callB (show CallR _ (.builtin "repr") (rReprN K) from repr_dn gd hu70) (by rfl) Y.repr (by decide +kernel) (pa_cons (pe_xf (xf_of X.xC) X.fC hz hf (pv 3)) pa_nil)) pa_nil)))
            (pv 2))))
        (.cons ⟨rfl, by decide, .inl gT⟩ (fun a oe cls d pn hz hf => pss_one (ps_set (i := 2) sc_law_told.nd rfl (.inl rfl) (pe_ifExp
            (PW.pt (pw_and (pt_val (pe_callB (show CallR _ (.builtin "isinstance") (rIsS K a cls d) from call_isS G.cg G.ct hz hf) (by rfl) Y.isinstance (by decide +kernel) (pa_cons (pv 3) (pa_cons (pe_glob (v := .ref R) (by rfl) gR rfl) pa_nil))))
              (pw_and1 (pt_not (pt_val (pe_callB (show CallR _ (.builtin "isinstance") (rIsS K a cls d) from call_isS G.cg G.ct hz hf) (by rfl) Y.isinstance (by decide +kernel) (pa_cons (pv 3) (pa_cons (pe_glob (v := .ref N) (by rfl) gN rfl) pa_nil))))))))
            (pe_tupZ (pa_cons pe_str (pa_cons (pe_callB (show CallR _ (.builtin "repr") (rReprN K) from repr_dn gd hu70) (by rfl) Y.repr (by decide +kernel) (pa_cons (pe_xf (xf_of X.xT) X.fT hz hf (pv 3)) pa_nil)) pa_nil)))
            (pv 2)))) .nil)))
      (pss_one (ps_ret (pv 2)))), ?_⟩
    have ftd := sd.bd.fits (by decide) (by decide)
    refine ⟨(by show 2 ≤ sizeLine; decide), fun t0 o0 n0 s0 z0 => ?_⟩
    generalize upd _ t0 o0 = H0 at s0 z0 ⊢
    have dn0 := dn.same s0
    rcases k01 with rfl | rfl
    · have q := q0 rfl
      refine ⟨_, rfl, rfl, _, rfl, iteT ?_⟩
      refine ⟨_, rfl, rfl, v, d, rfl, dn0, sd.bd.sm, fun ie H1 s1 => ?_, fun ni H1 dx s1 e1 => ?_⟩
      · obtain ⟨e1, e2, _⟩ := ev_ok (ev_cases ie) sd.bd.sm
        have ft := fits_str e1 e2
        have et := told0_e ie
        rw [et] at q
        refine ⟨_, .str (evText d), rfl, .str _, ft.1, ft.2.1, ft.2.2, ?_⟩
        refine ⟨(by show 2 ≤ sizeLine; decide), fun t1 o1 n1 s2 z1 => ?_⟩
        exact ⟨_, rfl, q _ t1 ((s0.trans s1).trans s2) z1⟩
      · have et := told0_n ni
        rw [et] at q
        refine ⟨true, X.mCC, fun _ a na => ?_, fun z => nomatch z⟩
        have s01 := s0.trans s1
        refine ⟨_, rfl, C, dx, _, .ref R, .ref R, true, rfl, rfl, rfl, e1, X.xC, .own R, X.kCR, _, rfl, iteT ?_⟩
        refine ⟨_, rfl, rfl, rfl, dx, _, _, rfl, e1, rfl, _, d, rfl, dn.same s01, ftd.1, ftd.2.1, ftd.2.2, ?_⟩
        refine ⟨(by show 2 ≤ sizeLine; decide), fun t1 o1 n1 s2 z1 => ?_⟩
        exact ⟨_, rfl, q _ t1 (s01.trans s2) z1⟩
    · have q := q1 rfl
      refine ⟨_, rfl, rfl, _, rfl, iteF ?_⟩
      refine ⟨_, rfl, rfl, v, d, rfl, dn0, fun x ed => ?_, fun no H1 dx s1 e1 => ?_⟩
      · have l6 := sd.st x ed
        subst ed
        refine ⟨l6, fun c H1 t s1 dt => ?_, fun c H1 dx s1 e1 => ?_⟩
        · have r : reads (.str x) = some (evOf (Txt.split x " ")) := by rw [reads_str, if_pos c]
          rw [told1_s r] at q
          obtain ⟨ec, es⟩ := reads_ok sd r
          have ft := (ev_ok ec es).2.2.2.fits (by decide) (by decide)
          refine ⟨_, evOf (Txt.split x " "), rfl, dt, ft.1, ft.2.1, ft.2.2, ?_⟩
          refine ⟨(by show 2 ≤ sizeLine; decide), fun t1 o1 n1 s2 z1 => ?_⟩
          exact ⟨_, rfl, q _ t1 ((s0.trans s1).trans s2) z1⟩
        · have r : reads (.str x) = none := by rw [reads_str, if_neg (by rw [c]; decide)]
          rw [told1_n r] at q
          refine ⟨false, X.mTC, fun z => (nomatch z), fun _ => ⟨true, X.mTT, fun _ a na => ?_, fun z => nomatch z⟩⟩
          have s01 := s0.trans s1
          refine ⟨_, rfl, T, dx, _, .ref R, .ref R, true, rfl, rfl, rfl, e1, X.xT, .own R, X.kTR, _, rfl, iteT ?_⟩
          refine ⟨_, rfl, T, dx, _, .ref N, .ref N, false, rfl, rfl, rfl, e1, X.xT, .own N, X.kTN, _, rfl, iteT ?_⟩
          refine ⟨_, rfl, rfl, rfl, dx, _, _, rfl, e1, rfl, _, _, rfl, dn.same s01, ftd.1, ftd.2.1, ftd.2.2, ?_⟩
          refine ⟨(by show 2 ≤ sizeLine; decide), fun t1 o1 n1 s2 z1 => ?_⟩
          exact ⟨_, rfl, q _ t1 (s01.trans s2) z1⟩
      · rw [told1_n (reads_no no)] at q
        refine ⟨false, X.mTC, fun z => (nomatch z), fun _ => ⟨true, X.mTT, fun _ a na => ?_, fun z => nomatch z⟩⟩
        have s01 := s0.trans s1
        refine ⟨_, rfl, T, dx, _, .ref R, .ref R, true, rfl, rfl, rfl, e1, X.xT, .own R, X.kTR, _, rfl, iteT ?_⟩
        refine ⟨_, rfl, T, dx, _, .ref N, .ref N, false, rfl, rfl, rfl, e1, X.xT, .own N, X.kTN, _, rfl, iteT ?_⟩
        refine ⟨_, rfl, rfl, rfl, dx, _, _, rfl, e1, rfl, _, _, rfl, dn.same s01, ftd.1, ftd.2.1, ftd.2.2, ?_⟩
        refine ⟨(by show 2 ≤ sizeLine; decide), fun t1 o1 n1 s2 z1 => ?_⟩
        exact ⟨_, rfl, q _ t1 (s01.trans s2) z1⟩
def spBoth (K : PySem.W.Frag) : Sp := fun vs H Q _ => ∃ (v u : V) (d e : PyData), vs = [v, u] ∧ Dn K H v d ∧ Dn K H u e ∧ Sd d ∧ Sd e ∧ ∀ H', Same H H' → Q (.bl true) H'
theorem ok_both {f : Addr} {fd : FuncData} (F : Fun K "_law_both_right" "_law_both_right" s_law_both_right f fd) (Y : Bn mg) (G_law_is_event : Fk P w K mg base CX0 3 "_law_is_event" ["_law_value"] (spIsEv K)) (G_law_text : Fk P w K mg base CX0 1 "_law_text" ["_law_value"] (spLT K)) (G_law_read : Fk P w K mg base CX0 4 "_law_read" ["_law_said"] (spRead K)) (G_law_told : Fg P w K mg base CX0 7 "_law_told" ["_law_way", "_law_value"] (spTold93 K)) :
    FnG P w K mg base CX0 8 f fd ["_law_value", "_law_said"] (spBoth K) := by
  refine fun_g0 F sc_law_both_right (fun {vs H Q E} h => ?_) (fun cdv A outer s H vs Q E gd hr h => ?_)
  · obtain ⟨v, u, d, e, rfl, _⟩ := h
    rfl
  · obtain ⟨v, u, d, e, rfl, dv, du, sd, se, q⟩ := h
    have hu70 := Room.units70 hr
    have hu64 := hr.units
    refine ⟨_, (pss_cons (ps_set (i := 2) sc_law_both_right.nd rfl (.inl rfl) (pe_ifExp (pt_val (pe_callF G_law_is_event (hr.mono (by decide)) (by rfl) pass0 (pa_cons (pv 0) pa_nil))) (pe_tupZ (pa_cons pe_str (pa_cons (pe_callB (repr_dn gd hu70) (by rfl) Y.repr (by decide +kernel) (pa_cons (pe_callF G_law_text (hr.mono (by decide)) (by rfl) pass0 (pa_cons (pv 0) pa_nil)) pa_nil)) pa_nil))) (pe_tupZ (pa_cons pe_str (pa_cons (pe_callB (repr_dn gd hu70) (by rfl) Y.repr (by decide +kernel) (pa_cons (pv 0) pa_nil)) pa_nil)))))
 (pss_cons (ps_set (i := 3) sc_law_both_right.nd rfl (.inl rfl) (pe_callF G_law_read (hr.mono (by decide)) (by rfl) pass0 (pa_cons (pv 1) pa_nil)))
 (pss_cons (ps_set (i := 4) sc_law_both_right.nd rfl (.inl rfl) (pe_ifExp (pt_cmpR op_isN (pv 3) pe_non (nomark _)) (pe_tupZ (pa_cons pe_str (pa_cons (pe_callB (repr_dn gd hu70) (by rfl) Y.repr (by decide +kernel) (pa_cons (pv 1) pa_nil)) pa_nil))) (pe_tupZ (pa_cons pe_str (pa_cons (pe_callB (repr_dn gd hu70) (by rfl) Y.repr (by decide +kernel) (pa_cons (pv 3) pa_nil)) pa_nil)))))
 (pss_one (ps_ret (pe_cmpR (op_eqD hu64) (pe_lst (pa_cons (pe_callFg (E := E0) G_law_told gd (hr.mono (by decide)) (by rfl) pass0 (pa_cons pe_int (pa_cons (pv 0) pa_nil))) (pa_cons (pe_callFg (E := E0) G_law_told gd (hr.mono (by decide)) (by rfl) pass0 (pa_cons pe_int (pa_cons (pv 1) pa_nil))) (pa_cons (pe_callFg (E := E0) G_law_told gd (hr.mono (by decide)) (by rfl) pass0 (pa_cons pe_int (pa_cons (pv 0) pa_nil))) pa_nil)))) (pe_lst (pa_cons (pv 2) (pa_cons (pv 4) (pa_cons (pv 2) pa_nil)))) (nomark _))))))), ?_⟩
    have ftd := sd.bd.fits (by decide) (by decide)
    have fte := se.bd.fits (by decide) (by decide)
    refine ⟨_, rfl, v, d, rfl, dv, sd.bd.sm, fun H1 s1 => ⟨_, rfl, ?_⟩⟩
    have dv1 := dv.same s1
    have du1 := du.same s1
    -- what is due
    cases ci : isEv d with
    | true =>
      refine iteT ?_
      obtain ⟨e1, e2, _⟩ := ev_ok (ev_cases ci) sd.bd.sm
      have ft := fits_str e1 e2
      have et := told0_e ci
      refine ⟨_, rfl, v, d, rfl, dv1, sd.bd.sm, ci, ?_⟩
      refine ⟨_, .str (evText d), rfl, .str _, ft.1, ft.2.1, ft.2.2, ?_⟩
      refine ⟨(by show 2 ≤ sizeLine; decide), fun t2 o2 n2 s2 z2 => ?_⟩
      generalize upd _ t2 o2 = H2 at s2 z2 ⊢
      have z2 : Tz H2 t2 [.str (told0 d).1, .str (told0 d).2] := by rw [et]; exact z2
      have dv2 := dv1.same s2
      have du2 := du1.same s2
      refine ⟨_, rfl, u, e, rfl, du2, fun x ee => ?_, fun no => ?_⟩
      · have l6 := se.st x ee
        have rd := read_ev (ps := Txt.split x " ") (fun p hp => Nat.le_trans (part_le x hp) l6)
        subst ee
        refine ⟨l6, fun c H3 t3 s3 d3 => ?_, fun c H3 s3 => ?_⟩
        · have ce : isEv (evOf (Txt.split x " ")) = true := rd.1.symm.trans c
          rw [rd.2 c] at d3
          have r : reads (.str x) = some (evOf (Txt.split x " ")) := by rw [reads_str, if_pos ce]
          have ex := told1_s r
          obtain ⟨ec, es⟩ := reads_ok se r
          have ft := (ev_ok ec es).2.2.2.fits (by decide) (by decide)
          refine ⟨_, rfl, rfl, _, rfl, iteF ?_⟩
          refine ⟨_, rfl, _, _, rfl, d3, ft.1, ft.2.1, ft.2.2, ?_⟩
          refine ⟨(by show 2 ≤ sizeLine; decide), fun t4 o4 n4 s4 z4 => ?_⟩
          generalize upd _ t4 o4 = H4 at s4 z4 ⊢
          have z4 : Tz H4 t4 [.str (told1 (.str x)).1, .str (told1 (.str x)).2] := by rw [ex]; exact z4
          have dv3 := (dv2.same s3).same s4
          have du3 := (du2.same s3).same s4
          have z3 := (z2.same s3).same s4
          have s0F := s1.trans (s2.trans (s3.trans s4))
          -- what is told
          refine ⟨_, rfl, 0, v, d, rfl, .inl rfl, dv3, sd, fun _ H5 t5 s5 z5 => ?_, fun z => nomatch z⟩
          refine ⟨_, rfl, 1, u, _, rfl, .inr rfl, du3.same s5, se, (fun z => nomatch z), fun _ H6 t6 s6 z6 => ?_⟩
          refine ⟨_, rfl, 0, v, d, rfl, .inl rfl, (dv3.same s5).same s6, sd, fun _ H7 t7 s7 z7 => ?_, fun z => nomatch z⟩
          refine ⟨(by show 3 ≤ sizeLine; decide), fun l8 n8 => ?_⟩
          generalize hg : upd _ l8 _ = H8
          obtain ⟨s8, g8⟩ := upd_new hg n8
          clear hg
          refine ⟨_, rfl, _, rfl, _, rfl, (by show 3 ≤ sizeLine; decide), fun l9 n9 => ?_⟩
          generalize hg : upd _ l9 _ = H9
          obtain ⟨s9, g9⟩ := upd_new hg n9
          clear hg
          have s49 := s5.trans (s6.trans (s7.trans (s8.trans s9)))
          obtain ⟨k1, k2⟩ := told0_ok sd
          obtain ⟨k3, k4⟩ := told1_ok se
          have sh := sh_list k1 k2 k3 k4
          have zz2 := z3.same s49
          have zz4 := z4.same s49
          have w5 := z5.same (s6.trans (s7.trans (s8.trans s9)))
          have w6 := z6.same (s7.trans (s8.trans s9))
          have w7 := z7.same (s8.trans s9)
          refine ⟨.list [T2 (told0 d).1 (told0 d).2, T2 (told1 (.str x)).1 (told1 (.str x)).2, T2 (told0 d).1 (told0 d).2], .list [T2 (told0 d).1 (told0 d).2, T2 (told1 (.str x)).1 (told1 (.str x)).2, T2 (told0 d).1 (told0 d).2], .lst (SqL.of (s9 _ _ g8)) (.cons (dp_T2 w5) (.cons (dp_T2 w6) (.cons (dp_T2 w7) .nil))), .lst (SqL.of g9) (.cons (dp_T2 zz2) (.cons (dp_T2 zz4) (.cons (dp_T2 zz2) .nil))), sh.2, sh.2, ?_⟩
          rw [SeqAt.eqv_refl _ sh.1]
          exact q _ (s0F.trans s49)
        · have ce : isEv (evOf (Txt.split x " ")) = false := rd.1.symm.trans c
          have ex := told1_n (d := .str x) (by rw [reads_str, if_neg (by rw [ce]; decide)])
          refine ⟨_, rfl, rfl, _, rfl, iteT ?_⟩
          refine ⟨_, rfl, _, _, rfl, du2.same s3, fte.1, fte.2.1, fte.2.2, ?_⟩
          refine ⟨(by show 2 ≤ sizeLine; decide), fun t4 o4 n4 s4 z4 => ?_⟩
          generalize upd _ t4 o4 = H4 at s4 z4 ⊢
          have z4 : Tz H4 t4 [.str (told1 (.str x)).1, .str (told1 (.str x)).2] := by rw [ex]; exact z4
          have dv3 := (dv2.same s3).same s4
          have du3 := (du2.same s3).same s4
          have z3 := (z2.same s3).same s4
          have s0F := s1.trans (s2.trans (s3.trans s4))
          -- what is told
          refine ⟨_, rfl, 0, v, d, rfl, .inl rfl, dv3, sd, fun _ H5 t5 s5 z5 => ?_, fun z => nomatch z⟩
          refine ⟨_, rfl, 1, u, _, rfl, .inr rfl, du3.same s5, se, (fun z => nomatch z), fun _ H6 t6 s6 z6 => ?_⟩
          refine ⟨_, rfl, 0, v, d, rfl, .inl rfl, (dv3.same s5).same s6, sd, fun _ H7 t7 s7 z7 => ?_, fun z => nomatch z⟩
          refine ⟨(by show 3 ≤ sizeLine; decide), fun l8 n8 => ?_⟩
          generalize hg : upd _ l8 _ = H8
          obtain ⟨s8, g8⟩ := upd_new hg n8
          clear hg
          refine ⟨_, rfl, _, rfl, _, rfl, (by show 3 ≤ sizeLine; decide), fun l9 n9 => ?_⟩
          generalize hg : upd _ l9 _ = H9
          obtain ⟨s9, g9⟩ := upd_new hg n9
          clear hg
          have s49 := s5.trans (s6.trans (s7.trans (s8.trans s9)))
          obtain ⟨k1, k2⟩ := told0_ok sd
          obtain ⟨k3, k4⟩ := told1_ok se
          have sh := sh_list k1 k2 k3 k4
          have zz2 := z3.same s49
          have zz4 := z4.same s49
          have w5 := z5.same (s6.trans (s7.trans (s8.trans s9)))
          have w6 := z6.same (s7.trans (s8.trans s9))
          have w7 := z7.same (s8.trans s9)
          refine ⟨.list [T2 (told0 d).1 (told0 d).2, T2 (told1 (.str x)).1 (told1 (.str x)).2, T2 (told0 d).1 (told0 d).2], .list [T2 (told0 d).1 (told0 d).2, T2 (told1 (.str x)).1 (told1 (.str x)).2, T2 (told0 d).1 (told0 d).2], .lst (SqL.of (s9 _ _ g8)) (.cons (dp_T2 w5) (.cons (dp_T2 w6) (.cons (dp_T2 w7) .nil))), .lst (SqL.of g9) (.cons (dp_T2 zz2) (.cons (dp_T2 zz4) (.cons (dp_T2 zz2) .nil))), sh.2, sh.2, ?_⟩
          rw [SeqAt.eqv_refl _ sh.1]
          exact q _ (s0F.trans s49)
      · have ex := told1_n (reads_no no)
        refine ⟨_, rfl, rfl, _, rfl, iteT ?_⟩
        refine ⟨_, rfl, _, _, rfl, du2, fte.1, fte.2.1, fte.2.2, ?_⟩
        refine ⟨(by show 2 ≤ sizeLine; decide), fun t4 o4 n4 s4 z4 => ?_⟩
        generalize upd _ t4 o4 = H4 at s4 z4 ⊢
        have z4 : Tz H4 t4 [.str (told1 e).1, .str (told1 e).2] := by rw [ex]; exact z4
        have dv3 := dv2.same s4
        have du3 := du2.same s4
        have z3 := z2.same s4
        have s0F := s1.trans (s2.trans s4)
        -- what is told
        refine ⟨_, rfl, 0, v, d, rfl, .inl rfl, dv3, sd, fun _ H5 t5 s5 z5 => ?_, fun z => nomatch z⟩
        refine ⟨_, rfl, 1, u, e, rfl, .inr rfl, du3.same s5, se, (fun z => nomatch z), fun _ H6 t6 s6 z6 => ?_⟩
        refine ⟨_, rfl, 0, v, d, rfl, .inl rfl, (dv3.same s5).same s6, sd, fun _ H7 t7 s7 z7 => ?_, fun z => nomatch z⟩
        refine ⟨(by show 3 ≤ sizeLine; decide), fun l8 n8 => ?_⟩
        generalize hg : upd _ l8 _ = H8
        obtain ⟨s8, g8⟩ := upd_new hg n8
        clear hg
        refine ⟨_, rfl, _, rfl, _, rfl, (by show 3 ≤ sizeLine; decide), fun l9 n9 => ?_⟩
        generalize hg : upd _ l9 _ = H9
        obtain ⟨s9, g9⟩ := upd_new hg n9
        clear hg
        have s49 := s5.trans (s6.trans (s7.trans (s8.trans s9)))
        obtain ⟨k1, k2⟩ := told0_ok sd
        obtain ⟨k3, k4⟩ := told1_ok se
        have sh := sh_list k1 k2 k3 k4
        have zz2 := z3.same s49
        have zz4 := z4.same s49
        have w5 := z5.same (s6.trans (s7.trans (s8.trans s9)))
        have w6 := z6.same (s7.trans (s8.trans s9))
        have w7 := z7.same (s8.trans s9)
        refine ⟨.list [T2 (told0 d).1 (told0 d).2, T2 (told1 e).1 (told1 e).2, T2 (told0 d).1 (told0 d).2], .list [T2 (told0 d).1 (told0 d).2, T2 (told1 e).1 (told1 e).2, T2 (told0 d).1 (told0 d).2], .lst (SqL.of (s9 _ _ g8)) (.cons (dp_T2 w5) (.cons (dp_T2 w6) (.cons (dp_T2 w7) .nil))), .lst (SqL.of g9) (.cons (dp_T2 zz2) (.cons (dp_T2 zz4) (.cons (dp_T2 zz2) .nil))), sh.2, sh.2, ?_⟩
        rw [SeqAt.eqv_refl _ sh.1]
        exact q _ (s0F.trans s49)
    | false =>
      refine iteF ?_
      have et := told0_n ci
      refine ⟨_, rfl, _, d, rfl, dv1, ftd.1, ftd.2.1, ftd.2.2, ?_⟩
      refine ⟨(by show 2 ≤ sizeLine; decide), fun t2 o2 n2 s2 z2 => ?_⟩
      generalize upd _ t2 o2 = H2 at s2 z2 ⊢
      have z2 : Tz H2 t2 [.str (told0 d).1, .str (told0 d).2] := by rw [et]; exact z2
      have dv2 := dv1.same s2
      have du2 := du1.same s2
      refine ⟨_, rfl, u, e, rfl, du2, fun x ee => ?_, fun no => ?_⟩
      · have l6 := se.st x ee
        have rd := read_ev (ps := Txt.split x " ") (fun p hp => Nat.le_trans (part_le x hp) l6)
        subst ee
        refine ⟨l6, fun c H3 t3 s3 d3 => ?_, fun c H3 s3 => ?_⟩
        · have ce : isEv (evOf (Txt.split x " ")) = true := rd.1.symm.trans c
          rw [rd.2 c] at d3
          have r : reads (.str x) = some (evOf (Txt.split x " ")) := by rw [reads_str, if_pos ce]
          have ex := told1_s r
          obtain ⟨ec, es⟩ := reads_ok se r
          have ft := (ev_ok ec es).2.2.2.fits (by decide) (by decide)
          refine ⟨_, rfl, rfl, _, rfl, iteF ?_⟩
          refine ⟨_, rfl, _, _, rfl, d3, ft.1, ft.2.1, ft.2.2, ?_⟩
          refine ⟨(by show 2 ≤ sizeLine; decide), fun t4 o4 n4 s4 z4 => ?_⟩
          generalize upd _ t4 o4 = H4 at s4 z4 ⊢
          have z4 : Tz H4 t4 [.str (told1 (.str x)).1, .str (told1 (.str x)).2] := by rw [ex]; exact z4
          have dv3 := (dv2.same s3).same s4
          have du3 := (du2.same s3).same s4
          have z3 := (z2.same s3).same s4
          have s0F := s1.trans (s2.trans (s3.trans s4))
          -- what is told
          refine ⟨_, rfl, 0, v, d, rfl, .inl rfl, dv3, sd, fun _ H5 t5 s5 z5 => ?_, fun z => nomatch z⟩
          refine ⟨_, rfl, 1, u, _, rfl, .inr rfl, du3.same s5, se, (fun z => nomatch z), fun _ H6 t6 s6 z6 => ?_⟩
          refine ⟨_, rfl, 0, v, d, rfl, .inl rfl, (dv3.same s5).same s6, sd, fun _ H7 t7 s7 z7 => ?_, fun z => nomatch z⟩
          refine ⟨(by show 3 ≤ sizeLine; decide), fun l8 n8 => ?_⟩
          generalize hg : upd _ l8 _ = H8
          obtain ⟨s8, g8⟩ := upd_new hg n8
          clear hg
          refine ⟨_, rfl, _, rfl, _, rfl, (by show 3 ≤ sizeLine; decide), fun l9 n9 => ?_⟩
          generalize hg : upd _ l9 _ = H9
          obtain ⟨s9, g9⟩ := upd_new hg n9
          clear hg
          have s49 := s5.trans (s6.trans (s7.trans (s8.trans s9)))
          obtain ⟨k1, k2⟩ := told0_ok sd
          obtain ⟨k3, k4⟩ := told1_ok se
          have sh := sh_list k1 k2 k3 k4
          have zz2 := z3.same s49
          have zz4 := z4.same s49
          have w5 := z5.same (s6.trans (s7.trans (s8.trans s9)))
          have w6 := z6.same (s7.trans (s8.trans s9))
          have w7 := z7.same (s8.trans s9)
          refine ⟨.list [T2 (told0 d).1 (told0 d).2, T2 (told1 (.str x)).1 (told1 (.str x)).2, T2 (told0 d).1 (told0 d).2], .list [T2 (told0 d).1 (told0 d).2, T2 (told1 (.str x)).1 (told1 (.str x)).2, T2 (told0 d).1 (told0 d).2], .lst (SqL.of (s9 _ _ g8)) (.cons (dp_T2 w5) (.cons (dp_T2 w6) (.cons (dp_T2 w7) .nil))), .lst (SqL.of g9) (.cons (dp_T2 zz2) (.cons (dp_T2 zz4) (.cons (dp_T2 zz2) .nil))), sh.2, sh.2, ?_⟩
          rw [SeqAt.eqv_refl _ sh.1]
          exact q _ (s0F.trans s49)
        · have ce : isEv (evOf (Txt.split x " ")) = false := rd.1.symm.trans c
          have ex := told1_n (d := .str x) (by rw [reads_str, if_neg (by rw [ce]; decide)])
          refine ⟨_, rfl, rfl, _, rfl, iteT ?_⟩
          refine ⟨_, rfl, _, _, rfl, du2.same s3, fte.1, fte.2.1, fte.2.2, ?_⟩
          refine ⟨(by show 2 ≤ sizeLine; decide), fun t4 o4 n4 s4 z4 => ?_⟩
          generalize upd _ t4 o4 = H4 at s4 z4 ⊢
          have z4 : Tz H4 t4 [.str (told1 (.str x)).1, .str (told1 (.str x)).2] := by rw [ex]; exact z4
          have dv3 := (dv2.same s3).same s4
          have du3 := (du2.same s3).same s4
          have z3 := (z2.same s3).same s4
          have s0F := s1.trans (s2.trans (s3.trans s4))
          -- what is told
          refine ⟨_, rfl, 0, v, d, rfl, .inl rfl, dv3, sd, fun _ H5 t5 s5 z5 => ?_, fun z => nomatch z⟩
          refine ⟨_, rfl, 1, u, _, rfl, .inr rfl, du3.same s5, se, (fun z => nomatch z), fun _ H6 t6 s6 z6 => ?_⟩
          refine ⟨_, rfl, 0, v, d, rfl, .inl rfl, (dv3.same s5).same s6, sd, fun _ H7 t7 s7 z7 => ?_, fun z => nomatch z⟩
          refine ⟨(by show 3 ≤ sizeLine; decide), fun l8 n8 => ?_⟩
          generalize hg : upd _ l8 _ = H8
          obtain ⟨s8, g8⟩ := upd_new hg n8
          clear hg
          refine ⟨_, rfl, _, rfl, _, rfl, (by show 3 ≤ sizeLine; decide), fun l9 n9 => ?_⟩
          generalize hg : upd _ l9 _ = H9
          obtain ⟨s9, g9⟩ := upd_new hg n9
          clear hg
          have s49 := s5.trans (s6.trans (s7.trans (s8.trans s9)))
          obtain ⟨k1, k2⟩ := told0_ok sd
          obtain ⟨k3, k4⟩ := told1_ok se
          have sh := sh_list k1 k2 k3 k4
          have zz2 := z3.same s49
          have zz4 := z4.same s49
          have w5 := z5.same (s6.trans (s7.trans (s8.trans s9)))
          have w6 := z6.same (s7.trans (s8.trans s9))
          have w7 := z7.same (s8.trans s9)
          refine ⟨.list [T2 (told0 d).1 (told0 d).2, T2 (told1 (.str x)).1 (told1 (.str x)).2, T2 (told0 d).1 (told0 d).2], .list [T2 (told0 d).1 (told0 d).2, T2 (told1 (.str x)).1 (told1 (.str x)).2, T2 (told0 d).1 (told0 d).2], .lst (SqL.of (s9 _ _ g8)) (.cons (dp_T2 w5) (.cons (dp_T2 w6) (.cons (dp_T2 w7) .nil))), .lst (SqL.of g9) (.cons (dp_T2 zz2) (.cons (dp_T2 zz4) (.cons (dp_T2 zz2) .nil))), sh.2, sh.2, ?_⟩
          rw [SeqAt.eqv_refl _ sh.1]
          exact q _ (s0F.trans s49)
      · have ex := told1_n (reads_no no)
        refine ⟨_, rfl, rfl, _, rfl, iteT ?_⟩
        refine ⟨_, rfl, _, _, rfl, du2, fte.1, fte.2.1, fte.2.2, ?_⟩
        refine ⟨(by show 2 ≤ sizeLine; decide), fun t4 o4 n4 s4 z4 => ?_⟩
        generalize upd _ t4 o4 = H4 at s4 z4 ⊢
        have z4 : Tz H4 t4 [.str (told1 e).1, .str (told1 e).2] := by rw [ex]; exact z4
        have dv3 := dv2.same s4
        have du3 := du2.same s4
        have z3 := z2.same s4
        have s0F := s1.trans (s2.trans s4)
        -- what is told
        refine ⟨_, rfl, 0, v, d, rfl, .inl rfl, dv3, sd, fun _ H5 t5 s5 z5 => ?_, fun z => nomatch z⟩
        refine ⟨_, rfl, 1, u, e, rfl, .inr rfl, du3.same s5, se, (fun z => nomatch z), fun _ H6 t6 s6 z6 => ?_⟩
        refine ⟨_, rfl, 0, v, d, rfl, .inl rfl, (dv3.same s5).same s6, sd, fun _ H7 t7 s7 z7 => ?_, fun z => nomatch z⟩
        refine ⟨(by show 3 ≤ sizeLine; decide), fun l8 n8 => ?_⟩
        generalize hg : upd _ l8 _ = H8
        obtain ⟨s8, g8⟩ := upd_new hg n8
        clear hg
        refine ⟨_, rfl, _, rfl, _, rfl, (by show 3 ≤ sizeLine; decide), fun l9 n9 => ?_⟩
        generalize hg : upd _ l9 _ = H9
        obtain ⟨s9, g9⟩ := upd_new hg n9
        clear hg
        have s49 := s5.trans (s6.trans (s7.trans (s8.trans s9)))
        obtain ⟨k1, k2⟩ := told0_ok sd
        obtain ⟨k3, k4⟩ := told1_ok se
        have sh := sh_list k1 k2 k3 k4
        have zz2 := z3.same s49
        have zz4 := z4.same s49
        have w5 := z5.same (s6.trans (s7.trans (s8.trans s9)))
        have w6 := z6.same (s7.trans (s8.trans s9))
        have w7 := z7.same (s8.trans s9)
        refine ⟨.list [T2 (told0 d).1 (told0 d).2, T2 (told1 e).1 (told1 e).2, T2 (told0 d).1 (told0 d).2], .list [T2 (told0 d).1 (told0 d).2, T2 (told1 e).1 (told1 e).2, T2 (told0 d).1 (told0 d).2], .lst (SqL.of (s9 _ _ g8)) (.cons (dp_T2 w5) (.cons (dp_T2 w6) (.cons (dp_T2 w7) .nil))), .lst (SqL.of g9) (.cons (dp_T2 zz2) (.cons (dp_T2 zz4) (.cons (dp_T2 zz2) .nil))), sh.2, sh.2, ?_⟩
        rw [SeqAt.eqv_refl _ sh.1]
        exact q _ (s0F.trans s49)
end
end My

namespace My
open PySem PySem.Spec PyProof.Rows L2 Gy Xl Xs Xt
theorem ev_len12 {d : PyData} (h : EvC d) (l12 : ∀ xs : List Str, ∀ c, d = .tuple [.str "ask", .tuple (xs.map PyData.str), c] → xs.length ≤ 12) : (evText d).length ≤ 600 := by
  cases h with
  | ask xs c l3 cl ah =>
    have ln := l12 xs _ rfl
    have jl : (Txt.join "," xs).length ≤ 12 * (8 + 1) := joinLen (fun x hx => (host_in (hosts_in ah x hx)).2.1) ln rfl
    have lN : (numS c).length ≤ 4 := numS_len (by decide) (by show c < 10000; omega)
    unfold evText
    rw [evParts_ask, join3, len_app, len_app, len_app, len_app]
    show 3 + 1 + _ + 1 + _ ≤ _
    omega
  | flat k ps hk l h =>
    unfold evText
    rw [← List.map_cons (f := PyData.str), evParts_flat]
    exact Nat.le_trans (joinLen (m := 12) (n := 3) (fun p hp => (h p hp).2.1) (by rw [List.length_cons]; omega) rfl) (by decide)
section
variable {P : Program} {w : World} {K : PySem.W.Frag} {mg : Str → Option Value} {base : Heap} {H : Hp}
theorem ok_law {f C T : Addr} {fd : FuncData} (F : Fun K "law" "law" s_law f fd) (Y : Bn mg) (G_law_rng : Fk P w K mg base CX0 1 "_law_rng" ["_law_script", "_law_k"] (spPot K)) (G_law_draw : Fk P w K mg base CX0 1 "_law_draw" ["_law_rng_here", "_law_many"] spDraw) (G_law_drawn : Fk P w K mg base CX0 3 "_law_drawn" ["_law_rng_here", "_law_kind"] (spDrawn K)) (G_law_text : Fk P w K mg base CX0 1 "_law_text" ["_law_value"] (spLT K))
    (G_event_text : Fk P w K mg base (L2.CX P w) 6 "event_text" ["event"] (spET K C)) (G_parse_event : Fk P w K mg base (L2.CX P w) 6 "parse_event" ["text"] (spPE K T)) (G_law_odd : Fk P w K mg base CX0 2 "_law_odd" ["_law_rng_here"] (spOdd K)) (G_law_changed : Fk P w K mg base CX0 3 "_law_changed" ["_law_rng_here", "_law_value"] (spChg K)) (G_law_text_changed : Fk P w K mg base CX0 3 "_law_text_changed" ["_law_rng_here", "_law_said"] (spTc K)) (G_law_both_right : Fg P w K mg base CX0 8 "_law_both_right" ["_law_value", "_law_said"] (spBoth K)) : FnG P w K mg base CX0 9 f fd ["_law_script"] (spLaw K) := by
  refine fun_g0 F sc_law (fun {vs H Q E} h => ?_) (fun cdv A outer s H vs Q E gd hr h => ?_)
  · obtain ⟨a, ns, rfl, _⟩ := h
    rfl
  · obtain ⟨a, ns, rfl, hS, hn, q⟩ := h
    have hu70 := Room.units70 hr
    refine ⟨_, (pss_cons (ps_for PassesOwn.never rfl (pi_range1 (by rfl) Y.range (pa_cons (pe_callB (call_max2 rfl) (by rfl) Y.max (by decide +kernel) (pa_cons pe_int (pa_cons (pe_callB (call_min2 rfl) (by rfl) Y.min (by decide +kernel) (pa_cons pe_int (pa_cons (pe_callB call_len_seq (by rfl) Y.len PySem.boot_len (pa_cons (pv 0) pa_nil)) pa_nil))) pa_nil))) pa_nil)) (pg_name (i := 1) sc_law.nd rfl (Or.inl rfl))
 (pss_cons (ps_set (i := 2) sc_law.nd rfl (.inl rfl) (pe_callF G_law_rng (hr.mono (by decide)) (by rfl) pass0 (pa_cons (pv 0) (pa_cons (pv 1) pa_nil))))
 (pss_cons (ps_set (i := 3) sc_law.nd rfl (.inl rfl) (pe_callF G_law_drawn (hr.mono (by decide)) (by rfl) pass0 (pa_cons (pv 2) (pa_cons (pe_callF G_law_draw (hr.mono (by decide)) (by rfl) pass0 (pa_cons (pv 2) (pa_cons pe_int pa_nil))) pa_nil))))
 (pss_cons (ps_set (i := 4) sc_law.nd rfl (.inl rfl) (pe_callF G_law_text (hr.mono (by decide)) (by rfl) pass0 (pa_cons (pv 3) pa_nil)))
 (pss_cons (ps_if (PW.pt (pw_or (pt_cmpR op_ne (pe_callF G_event_text (hr.mono (by decide)) (by rfl) passN (pa_cons (pv 3) pa_nil)) (pv 4) (nomark _)) (pw_or1 (pt_cmpR op_ne (pe_callB (repr_dn gd hu70) (by rfl) Y.repr (by decide +kernel) (pa_cons (pe_callF G_parse_event (hr.mono (by decide)) (by rfl) passN (pa_cons (pv 4) pa_nil)) pa_nil)) (pe_callB (repr_dn gd hu70) (by rfl) Y.repr (by decide +kernel) (pa_cons (pv 3) pa_nil)) (nomark _)))))
 (pss_one (ps_ret pe_bl))
 pss_nil)
 (pss_cons (ps_for PassesOwn.never rfl (pi_range1 (by rfl) Y.range (pa_cons pe_int pa_nil)) (pg_name (i := 5) sc_law.nd rfl (Or.inl rfl))
 (pss_one (ps_if (pt_not (pt_val (pe_callFg (E := E0) G_law_both_right gd (hr.mono (by decide)) (by rfl) pass0 (pa_cons (pe_callF G_law_changed (hr.mono (by decide)) (by rfl) pass0 (pa_cons (pv 2) (pa_cons (pv 3) pa_nil))) (pa_cons (pe_callF G_law_text_changed (hr.mono (by decide)) (by rfl) pass0 (pa_cons (pv 2) (pa_cons (pv 4) pa_nil))) pa_nil)))))
 (pss_one (ps_ret pe_bl))
 pss_nil)))
 (pss_one (ps_if (PW.pt (pw_or (pt_not (pt_val (pe_callFg (E := E0) G_law_both_right gd (hr.mono (by decide)) (by rfl) pass0 (pa_cons (pe_callF G_law_odd (hr.mono (by decide)) (by rfl) pass0 (pa_cons (pv 2) pa_nil)) (pa_cons (pe_callF G_law_odd (hr.mono (by decide)) (by rfl) pass0 (pa_cons (pv 2) pa_nil)) pa_nil))))) (pw_or1 (pt_not (pt_val (pe_callFg (E := E0) G_law_both_right gd (hr.mono (by decide)) (by rfl) pass0 (pa_cons (pv 3) (pa_cons (pv 4) pa_nil))))))))
 (pss_one (ps_ret pe_bl))
 pss_nil))))))))
 (pss_one (ps_ret pe_bl))), ?_⟩
    refine ⟨_, rfl, a, _, rfl, .inl hS, 10, _, rfl, 1, _, rfl, _, rfl, ?_, ?_, ?_⟩
    · rw [List.length_map]
      split <;> split <;> omega
    · rw [List.length_map]
      split <;> split <;> omega
    generalize hm : (Int.toNat _) = mm
    have m10 : mm ≤ 10 := by
      rw [List.length_map] at hm
      rw [← hm]
      split <;> split <;> omega
    refine for_it (walk_range (lo := 0) (n := mm)) (fun i σ H' => (∃ a1 a2 a3 a4 a5, σ = [some (.ref a), a1, a2, a3, a4, a5]) ∧ Same H H') ⟨⟨_, _, _, _, _, rfl⟩, Same.refl _⟩ (fun _ _ _ _ _ => trivial) ?_ ?_
    · rintro k y σ H1 H2 hk ⟨⟨a1, a2, a3, a4, a5, rfl⟩, s1⟩ ⟨rfl, rfl⟩
      refine ⟨_, rfl, _, rfl, a, ns, k, (by show [V.ref a, V.int (0 + (k : Int))] = _; rw [Int.zero_add]), s1.seq hS, by omega, fun HP r sP nr R => ?_⟩
      refine ⟨_, rfl, _, rfl, r, 5, rfl, R, by decide, by decide, fun H2' dd b2 R2 dd0 dd5 => ?_⟩
      refine ⟨r, dd, rfl, dd0, dd5, R2, fun HV t xs ds bV RV tz qd ie pa l3 l12 => ?_⟩
      have b0 := b2.trans bV
      have sd : Sd (.tuple ds) := ⟨(tup_bd pa (by omega)).1, (tup_bd pa (by omega)).2⟩
      have sm := sd.bd.sm
      have ec := ev_cases ie
      have ft := sd.bd.fits (by decide) (by decide)
      obtain ⟨_, ox, _⟩ := ev_ok ec sm
      have lx := ev_len12 ec (fun zs c e => by
        injection e with e
        subst e
        have := l12 (zs.map PyData.str) (by simp)
        rwa [List.length_map] at this)
      have bk := ev_back ec
      have l1 : 1 ≤ ds.length := by
        cases ds with
        | nil => cases ie
        | cons d ds => exact Nat.le_add_left _ _
      have dn : Db K r HV (.ref t) (.tuple ds) := .tup RV tz qd
      refine ⟨_, rfl, _, _, rfl, dn.dn, sm, ie, ?_⟩
      refine ⟨_, rfl, _, _, rfl, dn.dn, sm, fun _ H3 s3 => ?_, fun z => absurd (ie.symm.trans z) (by decide)⟩
      refine ⟨_, rfl, rfl, _, rfl, ?_⟩
      rw [decide_eq_true rfl]
      refine iteF ?_
      generalize hx0 : evText (.tuple ds) = x0 at lx ox bk ⊢
      have dn3 := dn.same s3
      have pa1 : ∀ (E' : XK) (H4 : Hp) (Q' : VK), (∀ H' t', Same H4 H' → Dn K H' (.ref t') (.tuple ds) → Q' (.ref t') H') → spPE K T [.str x0] H4 Q' E' := fun E' H4 Q' h => by
        refine ⟨_, _, rfl, .str _, fun y e => ?_, fun no => absurd rfl (no _)⟩
        injection e with e
        subst e
        rw [bk]
        exact ⟨by omega, fun _ => h, fun z => absurd (ie.symm.trans z) (by decide)⟩
      refine ⟨_, rfl, ?_⟩
      dsimp only [tNil]
      refine pa1 _ _ _ fun H4 t4 s4 d4 => ?_
      refine ⟨_, _, rfl, d4, ft.1, ft.2.1, ft.2.2, ?_⟩
      have dn4 := dn3.same s4
      refine ⟨_, rfl, _, _, rfl, dn4.dn, ft.1, ft.2.1, ft.2.2, rfl, _, rfl, ?_⟩
      rw [decide_eq_true rfl]
      refine iteF ?_
      have s34 := s3.trans s4
      refine ⟨5, rfl, by decide, by decide, ?_⟩
      refine for_it (walk_range (lo := 0) (n := 5)) (fun i σ H' => (∃ a5, σ = [some (.ref a), some (.int (0 + (k : Int))), some (.ref r), some (.ref t), some (.str x0), a5]) ∧ But r HP H' ∧ Rng H' r ∧ Tz H' t xs ∧ Dbs K r H' xs ds) ⟨⟨_, rfl⟩, b0.trans (But.of s34), RV.same s34, tz.same s34, qd.same s34⟩ (fun _ _ _ _ _ => trivial) ?_ ?_
      · rintro i y σ H5 H6 hi ⟨⟨a5, rfl⟩, bI, R, tz, qd⟩ ⟨rfl, rfl⟩
        refine ⟨_, rfl, _, rfl, r, t, xs, ds, rfl, R, tz, qd, l1, l3, pa, fun H7 v d b7 R7 dv bo => ?_⟩
        have tz := tz.but R b7
        have qd := qd.but b7
        refine ⟨_, rfl, _, rfl, r, x0, rfl, R7, lx, ox, fun H8 u e b8 R8 du se => ?_⟩
        have tz := tz.but R7 b8
        have qd := qd.but b8
        refine ⟨v, u, d, e, rfl, (dv.but b8).dn, du.dn, ⟨bo.1, bo.2⟩, se, fun H9 s9 => ⟨_, rfl, iteF ?_⟩⟩
        exact ⟨⟨_, rfl⟩, bI.trans (b7.trans (b8.trans (But.of s9))), R8.same s9, tz.same s9, qd.same s9⟩
      · rintro σ H5 ⟨⟨a5, rfl⟩, bI, R, tz, qd⟩
        have dn5 : Db K r H5 (.ref t) (.tuple ds) := .tup R tz qd
        refine ⟨_, rfl, r, rfl, R, fun H6 v d b6 R6 dv od => ?_⟩
        refine ⟨_, rfl, r, rfl, R6, fun H7 u e b7 R7 du oe => ?_⟩
        refine ⟨v, u, d, e, rfl, (dv.but b7).dn, du.dn, od.sd, oe.sd, fun H8 s8 => ⟨_, rfl, iteF ?_⟩⟩
        have dn8 := ((dn5.but b6).but b7).same s8
        refine ⟨_, rfl, _, rfl, _, _, _, _, rfl, dn8.dn, .str x0, sd, sd_str (by omega) ox, fun H9 s9 => ⟨_, rfl, iteF ?_⟩⟩
        refine ⟨⟨_, _, _, _, _, rfl⟩, ?_⟩
        refine fun b o e => ?_
        exact (bI.trans (b6.trans (b7.trans (But.of (s8.trans s9))))) b o (fun z => by rw [z] at e; rw [s1 _ _ e] at nr; cases nr) (sP b o (s1 b o e))
    · rintro σ H1 ⟨⟨a1, a2, a3, a4, a5, rfl⟩, s1⟩
      exact q _
end
end My

namespace My
open PySem PySem.Spec PyProof.Rows L2 Gy Xl Xs Xt
theorem xb_mk {K : PySem.W.Frag} {x qual : Str} {st : Stmt} {f : Addr} {fd : FuncData} {ps ks : List Str} {g : List Value → List Value → List Value} {gV : List V → List V → List V} (F : Fun K x qual st f fd)
    (rel : ∀ {vs : List V} {us : List Value} {zs : List V} {ws : List Value}, Vals vs us → Vals zs ws → Vals (gV vs zs) (g us ws))
    (h : ∀ (kV doc pm : Value) (an : Option Addr) (cdv ct : Value) (b : Value) (us ws : List Value), (b :: g us ws).length = ps.length →
      bindArgs (PySem.W.fnOf x qual (defArgs st) (defBody st) (defScope st) .none kV doc pm an cdv ct) ⟨b :: us, ks.zip ws⟩ = pure (ps.zip (b :: g us ws))) : XB K fd ps ks g gV := by
  obtain ⟨oc, od, kV, doc, pm, an, cdv, ct, osl, rfl, lk, hcd⟩ := F.ex
  exact ⟨fun s b us ws _ hl => .of_eq (h kV doc pm an cdv ct b us ws hl), rel⟩
abbrev sI_InvalidEvent : Stmt := inClass (top 2) 0
theorem scI_InvalidEvent : FnScope ["self", "value"] ["self", "value"] (defScope sI_InvalidEvent) := ⟨rfl, rfl, rfl, by decide +kernel, rfl, by decide +kernel, by decide +kernel⟩
theorem raw_InvalidEvent {K : PySem.W.Frag} {c fI : Addr} {od an : Option Addr} {sl : Array (Option Value)} {oc kV dc pm cdv ct : Value}
    (ii : PySem.W.excInitIn K c [.type "ValueError", .type "Exception", .type "BaseException", .type "object"] "ValueError.__new__" = true) (ov : PySem.W.excOver K c [.type "ValueError", .type "Exception", .type "BaseException", .type "object"] = true) (sa : PySem.W.findIn K (.ref c) "__setattr__" = some (some (.builtin "object.__setattr__")))
    (ga : PySem.W.findIn K (.ref c) "__getattribute__" = some (some (.builtin "BaseException.__getattribute__"))) (gg : PySem.W.findIn K (.ref c) "__getattr__" = some none) (ca : PySem.W.findIn K (.ref c) "__class__" = some (some (.builtin "object.__class__")))
    (ex : PySem.W.subIn K (.ref c) (.type "BaseException") = some true) (ob : PySem.W.mroIn K c (.type "object") = some true) (hd : PySem.W.hasDictIn K c = true) (kp : PySem.W.keepIn K (.ref c) = true)
    (ty : PySem.W.typeIn K (.ref c) = some (.type "type")) (ini : PySem.W.findIn K (.ref c) "__init__" = some (some (.ref fI))) (tf : PySem.W.typeIn K (.ref fI) = some (.type "function"))
    (li : K.lookup fI = some ⟨oc, od, .func (PySem.W.fnOf "__init__" "InvalidEvent.__init__" (defArgs sI_InvalidEvent) (defBody sI_InvalidEvent) (defScope sI_InvalidEvent) .none kV dc pm an cdv ct), sl⟩) (ci : PySem.W.codeIn K cdv "InvalidEvent.__init__" = true) (ki : PySem.W.keepIn K (.ref fI) = true)
    (n0 : PySem.W.findIn K (.ref c) "value" = some none) : XCl K c ∧ ∀ (P : Program) (w : World) (mg : Str → Option Value) (base : Heap), mg "InvalidEvent" = some (.ref c) → Rz P w K mg base "InvalidEvent" "value" c := by
  have X : XCl K c := ⟨⟨_, _, _, _, PySem.F.excBase_ValueError, PySem.F.store_ValueError, ii, ov⟩, sa, ga, gg, ca, ex, ob, hd, kp⟩
  refine ⟨X, fun P w mg base gm => ?_⟩
  have F := fun_mk (st := sI_InvalidEvent) li ci ki
  refine ⟨gm, ty, fI, _, ⟨X, ini, tf⟩, ?_, xb_mk F (fun r _ => r) fun _ _ _ _ _ _ b us ws hl => match us, hl with | [_], _ => rfl⟩
  refine F.ok scI_InvalidEvent (fun vs H Q E h => ?_) (fun cdv A outer s H vs Q E hr h => ?_)
  · obtain ⟨a, v, rfl, _⟩ := h
    rfl
  · obtain ⟨a, v, rfl, ha, q⟩ := h
    exact ⟨_, pss_one (ps_xs (pv 0) (pv 1)), v, rfl, .ref a, rfl, a, c, rfl, X, n0, .inl ⟨ha, fun dx n ne => q dx n ne⟩⟩
abbrev sI_InvalidText : Stmt := inClass (top 3) 0
theorem scI_InvalidText : FnScope ["self", "value"] ["self", "value"] (defScope sI_InvalidText) := ⟨rfl, rfl, rfl, by decide +kernel, rfl, by decide +kernel, by decide +kernel⟩
theorem raw_InvalidText {K : PySem.W.Frag} {c fI : Addr} {od an : Option Addr} {sl : Array (Option Value)} {oc kV dc pm cdv ct : Value}
    (ii : PySem.W.excInitIn K c [.type "ValueError", .type "Exception", .type "BaseException", .type "object"] "ValueError.__new__" = true) (ov : PySem.W.excOver K c [.type "ValueError", .type "Exception", .type "BaseException", .type "object"] = true) (sa : PySem.W.findIn K (.ref c) "__setattr__" = some (some (.builtin "object.__setattr__")))
    (ga : PySem.W.findIn K (.ref c) "__getattribute__" = some (some (.builtin "BaseException.__getattribute__"))) (gg : PySem.W.findIn K (.ref c) "__getattr__" = some none) (ca : PySem.W.findIn K (.ref c) "__class__" = some (some (.builtin "object.__class__")))
    (ex : PySem.W.subIn K (.ref c) (.type "BaseException") = some true) (ob : PySem.W.mroIn K c (.type "object") = some true) (hd : PySem.W.hasDictIn K c = true) (kp : PySem.W.keepIn K (.ref c) = true)
    (ty : PySem.W.typeIn K (.ref c) = some (.type "type")) (ini : PySem.W.findIn K (.ref c) "__init__" = some (some (.ref fI))) (tf : PySem.W.typeIn K (.ref fI) = some (.type "function"))
    (li : K.lookup fI = some ⟨oc, od, .func (PySem.W.fnOf "__init__" "InvalidText.__init__" (defArgs sI_InvalidText) (defBody sI_InvalidText) (defScope sI_InvalidText) .none kV dc pm an cdv ct), sl⟩) (ci : PySem.W.codeIn K cdv "InvalidText.__init__" = true) (ki : PySem.W.keepIn K (.ref fI) = true)
    (n0 : PySem.W.findIn K (.ref c) "value" = some none) : XCl K c ∧ ∀ (P : Program) (w : World) (mg : Str → Option Value) (base : Heap), mg "InvalidText" = some (.ref c) → Rz P w K mg base "InvalidText" "value" c := by
  have X : XCl K c := ⟨⟨_, _, _, _, PySem.F.excBase_ValueError, PySem.F.store_ValueError, ii, ov⟩, sa, ga, gg, ca, ex, ob, hd, kp⟩
  refine ⟨X, fun P w mg base gm => ?_⟩
  have F := fun_mk (st := sI_InvalidText) li ci ki
  refine ⟨gm, ty, fI, _, ⟨X, ini, tf⟩, ?_, xb_mk F (fun r _ => r) fun _ _ _ _ _ _ b us ws hl => match us, hl with | [_], _ => rfl⟩
  refine F.ok scI_InvalidText (fun vs H Q E h => ?_) (fun cdv A outer s H vs Q E hr h => ?_)
  · obtain ⟨a, v, rfl, _⟩ := h
    rfl
  · obtain ⟨a, v, rfl, ha, q⟩ := h
    exact ⟨_, pss_one (ps_xs (pv 0) (pv 1)), v, rfl, .ref a, rfl, a, c, rfl, X, n0, .inl ⟨ha, fun dx n ne => q dx n ne⟩⟩
theorem exm_of {K : PySem.W.Frag} {C D : Addr} {cd : ClassData} {b : Bool} (bP : PySem.W.subIn K (.ref D) (.type "BaseException") = some true) (cl : PySem.W.clsIn K D = some cd) (ty : PySem.W.typeIn K (.ref D) = some (.type "type")) (ss : PySem.W.subIn K (.ref C) (.ref D) = some b) : PySem.W.exmOne K (.ref C) (.ref D) = some b := by
  unfold PySem.W.exmOne
  rw [bP, if_pos (by rfl)]
  show (if ((PySem.W.clsIn K D).isSome && PySem.W.typeIn K (.ref D) == some (.type "type")) = true then PySem.W.subIn K (.ref C) (.ref D) else none) = _
  rw [cl, ty, if_pos (by rfl)]
  exact ss
theorem kit_bt {K : PySem.W.Frag} {C : Addr} {T : String} {b : Bool} (m : PySem.W.kitMeta T = true) (sb : PySem.W.subIn K (.ref C) (.type T) = some b) : PySem.W.kitOne K (.ref C) (.type T) = some b := by
  unfold PySem.W.kitOne
  rw [if_neg (show ¬ ((Value.ref C == Value.type T) = true) from fun z => Value.noConfusion (beq_iff_eq.mp z))]
  show (if PySem.W.kitMeta T = true then PySem.W.subIn K (.ref C) (.type T) else none) = _
  rw [if_pos m]
  exact sb
theorem kit_sub {K : PySem.W.Frag} {C D : Addr} {cd : ClassData} {b : Bool} (ne : C ≠ D) (cl : PySem.W.clsIn K D = some cd) (ty : PySem.W.typeIn K (.ref D) = some (.type "type")) (sb : PySem.W.subIn K (.ref C) (.ref D) = some b) : PySem.W.kitOne K (.ref C) (.ref D) = some b := by
  unfold PySem.W.kitOne
  rw [if_neg (fun z => ne (Value.ref.inj (beq_iff_eq.mp z)))]
  show (if ((PySem.W.clsIn K D).isSome && PySem.W.typeIn K (.ref D) == some (.type "type")) = true then PySem.W.subIn K (.ref C) (.ref D) else none) = _
  rw [cl, ty, if_pos (by rfl)]
  exact sb
/-- the written table of the events' sizes -/
def EvAt (es : Array DictEntry) : Prop := ∃ h1 h2 h3 h4 h5 t1 t2 t3 t4 t5 u1 u2 u3 u4 u5, es.toList = [⟨h1, .str "write" t1, .int 3 u1⟩, ⟨h2, .str "ask" t2, .int 3 u2⟩, ⟨h3, .str "deliver" t3, .int 3 u3⟩, ⟨h4, .str "add" t4, .int 3 u4⟩, ⟨h5, .str "remove" t5, .int 2 u5⟩]
theorem find_to (es : Array DictEntry) (z : Str) : findBy Value.isStrOf es z = (es.toList.find? fun e => Value.isStrOf z e.key).map (·.val) := by
  obtain ⟨l⟩ := es
  unfold findBy
  rw [List.find?_toArray]
theorem kfn_of {K : PySem.W.Frag} {w : World} {a : Addr} {es : Array DictEntry} {n : Nat} (hl : K.lookup a = some ⟨.type "dict", none, .dict es n, #[]⟩) (hk : PySem.W.KeysLit w.params es.toList) (low : (a == sysModules) = false) (h : EvAt es) : KFn K w a evF := by
  obtain ⟨h1, h2, h3, h4, h5, t1, t2, t3, t4, t5, u1, u2, u3, u4, u5, e⟩ := h
  refine ⟨es, n, hl, hk, low, fun z => ?_⟩
  rw [find_to, e]
  unfold evF evSz
  have st : ∀ (x : Str) (t : Tok), Value.isStrOf z (.str x t) = (x == z) := fun x t => rfl
  simp only [List.find?_cons, st]
  by_cases c1 : z = "write"
  · subst c1
    exact ⟨_, rfl⟩
  · rw [beq_eq_false_iff_ne.mpr (fun y => c1 y.symm), if_neg c1]
    by_cases c2 : z = "ask"
    · subst c2
      exact ⟨_, rfl⟩
    · rw [beq_eq_false_iff_ne.mpr (fun y => c2 y.symm), if_neg c2]
      by_cases c3 : z = "deliver"
      · subst c3
        exact ⟨_, rfl⟩
      · rw [beq_eq_false_iff_ne.mpr (fun y => c3 y.symm), if_neg c3]
        by_cases c4 : z = "add"
        · subst c4
          exact ⟨_, rfl⟩
        · rw [beq_eq_false_iff_ne.mpr (fun y => c4 y.symm), if_neg c4]
          by_cases c5 : z = "remove"
          · subst c5
            exact ⟨_, rfl⟩
          · rw [beq_eq_false_iff_ne.mpr (fun y => c5 y.symm), if_neg c5]
            rfl
theorem all_mk {l : PySem.W.OpenLaw} {w : World} {K : PySem.W.Frag} {h : Heap} {mg : Str → Option Value} {fa f_is_integer_from f_is_index f_is_text_of f_is_host_name f_is_word f_is_relink_path f_is_cut_of f_is_relink f_parse_index f_relink_text f_relink_from f_has_event_form f_is_event f_event_text f_event_from f_parse_event f_law_rng f_law_draw f_law_names f_law_shuffled f_law_odd f_law_is_name f_law_is_word f_law_number f_law_drawn_word f_law_drawn f_law_is_relink f_law_is_event f_law_text f_law_read f_law_changed f_law_text_changed f_law_told f_law_both_right f_law c_InvalidEvent c_InvalidText : Addr} {ea : Addr} {es_e : Array DictEntry} {n_e : Nat} {cd_C : ClassData} {cd_T : ClassData} {c_RelinkTreeError : Addr} {cd_R : ClassData} {c_InvalidLine : Addr} {cd_N : ClassData} (X : K.In h) (G : h.Ns mainGlobals mg) (hfa : mg "law" = some (.ref fa))
    {od_is_integer_from od_is_index od_is_text_of od_is_host_name od_is_word od_is_relink_path od_is_cut_of od_is_relink od_parse_index od_relink_text od_relink_from od_has_event_form od_is_event od_event_text od_event_from od_parse_event od_law_rng od_law_draw od_law_names od_law_shuffled od_law_odd od_law_is_name od_law_is_word od_law_number od_law_drawn_word od_law_drawn od_law_is_relink od_law_is_event od_law_text od_law_read od_law_changed od_law_text_changed od_law_told od_law_both_right od_law an_is_integer_from an_is_index an_is_text_of an_is_host_name an_is_word an_is_relink_path an_is_cut_of an_is_relink an_parse_index an_relink_text an_relink_from an_has_event_form an_is_event an_event_text an_event_from an_parse_event an_law_rng an_law_draw an_law_names an_law_shuffled an_law_odd an_law_is_name an_law_is_word an_law_number an_law_drawn_word an_law_drawn an_law_is_relink an_law_is_event an_law_text an_law_read an_law_changed an_law_text_changed an_law_told an_law_both_right an_law : Option Addr} {sl_is_integer_from sl_is_index sl_is_text_of sl_is_host_name sl_is_word sl_is_relink_path sl_is_cut_of sl_is_relink sl_parse_index sl_relink_text sl_relink_from sl_has_event_form sl_is_event sl_event_text sl_event_from sl_parse_event sl_law_rng sl_law_draw sl_law_names sl_law_shuffled sl_law_odd sl_law_is_name sl_law_is_word sl_law_number sl_law_drawn_word sl_law_drawn sl_law_is_relink sl_law_is_event sl_law_text sl_law_read sl_law_changed sl_law_text_changed sl_law_told sl_law_both_right sl_law : Array (Option Value)} {oc_is_integer_from oc_is_index oc_is_text_of oc_is_host_name oc_is_word oc_is_relink_path oc_is_cut_of oc_is_relink oc_parse_index oc_relink_text oc_relink_from oc_has_event_form oc_is_event oc_event_text oc_event_from oc_parse_event oc_law_rng oc_law_draw oc_law_names oc_law_shuffled oc_law_odd oc_law_is_name oc_law_is_word oc_law_number oc_law_drawn_word oc_law_drawn oc_law_is_relink oc_law_is_event oc_law_text oc_law_read oc_law_changed oc_law_text_changed oc_law_told oc_law_both_right oc_law kV_is_integer_from kV_is_index kV_is_text_of kV_is_host_name kV_is_word kV_is_relink_path kV_is_cut_of kV_is_relink kV_parse_index kV_relink_text kV_relink_from kV_has_event_form kV_is_event kV_event_text kV_event_from kV_parse_event kV_law_rng kV_law_draw kV_law_names kV_law_shuffled kV_law_odd kV_law_is_name kV_law_is_word kV_law_number kV_law_drawn_word kV_law_drawn kV_law_is_relink kV_law_is_event kV_law_text kV_law_read kV_law_changed kV_law_text_changed kV_law_told kV_law_both_right kV_law dc_is_integer_from dc_is_index dc_is_text_of dc_is_host_name dc_is_word dc_is_relink_path dc_is_cut_of dc_is_relink dc_parse_index dc_relink_text dc_relink_from dc_has_event_form dc_is_event dc_event_text dc_event_from dc_parse_event dc_law_rng dc_law_draw dc_law_names dc_law_shuffled dc_law_odd dc_law_is_name dc_law_is_word dc_law_number dc_law_drawn_word dc_law_drawn dc_law_is_relink dc_law_is_event dc_law_text dc_law_read dc_law_changed dc_law_text_changed dc_law_told dc_law_both_right dc_law pm_is_integer_from pm_is_index pm_is_text_of pm_is_host_name pm_is_word pm_is_relink_path pm_is_cut_of pm_is_relink pm_parse_index pm_relink_text pm_relink_from pm_has_event_form pm_is_event pm_event_text pm_event_from pm_parse_event pm_law_rng pm_law_draw pm_law_names pm_law_shuffled pm_law_odd pm_law_is_name pm_law_is_word pm_law_number pm_law_drawn_word pm_law_drawn pm_law_is_relink pm_law_is_event pm_law_text pm_law_read pm_law_changed pm_law_text_changed pm_law_told pm_law_both_right pm_law cd_is_integer_from cd_is_index cd_is_text_of cd_is_host_name cd_is_word cd_is_relink_path cd_is_cut_of cd_is_relink cd_parse_index cd_relink_text cd_relink_from cd_has_event_form cd_is_event cd_event_text cd_event_from cd_parse_event cd_law_rng cd_law_draw cd_law_names cd_law_shuffled cd_law_odd cd_law_is_name cd_law_is_word cd_law_number cd_law_drawn_word cd_law_drawn cd_law_is_relink cd_law_is_event cd_law_text cd_law_read cd_law_changed cd_law_text_changed cd_law_told cd_law_both_right cd_law ct_is_integer_from ct_is_index ct_is_text_of ct_is_host_name ct_is_word ct_is_relink_path ct_is_cut_of ct_is_relink ct_parse_index ct_relink_text ct_relink_from ct_has_event_form ct_is_event ct_event_text ct_event_from ct_parse_event ct_law_rng ct_law_draw ct_law_names ct_law_shuffled ct_law_odd ct_law_is_name ct_law_is_word ct_law_number ct_law_drawn_word ct_law_drawn ct_law_is_relink ct_law_is_event ct_law_text ct_law_read ct_law_changed ct_law_text_changed ct_law_told ct_law_both_right ct_law : Value}
    {t_LETTERS t_DIGITS t_LONGEST_NAME t_LONGEST_WORD t_SHORTEST_PATH : Tok}
    (a_is_integer_from : PySem.W.nsIn K mainGlobals "is_integer_from" = some (some (.ref f_is_integer_from))) (l_is_integer_from : K.lookup f_is_integer_from = some ⟨oc_is_integer_from, od_is_integer_from, .func (PySem.W.fnOf "is_integer_from" "is_integer_from" (defArgs s_is_integer_from) (defBody s_is_integer_from) (defScope s_is_integer_from) .none kV_is_integer_from dc_is_integer_from pm_is_integer_from an_is_integer_from cd_is_integer_from ct_is_integer_from), sl_is_integer_from⟩) (co_is_integer_from : PySem.W.codeIn K cd_is_integer_from "is_integer_from" = true) (k_is_integer_from : PySem.W.keepIn K (.ref f_is_integer_from) = true)
    (a_is_index : PySem.W.nsIn K mainGlobals "is_index" = some (some (.ref f_is_index))) (l_is_index : K.lookup f_is_index = some ⟨oc_is_index, od_is_index, .func (PySem.W.fnOf "is_index" "is_index" (defArgs s_is_index) (defBody s_is_index) (defScope s_is_index) .none kV_is_index dc_is_index pm_is_index an_is_index cd_is_index ct_is_index), sl_is_index⟩) (co_is_index : PySem.W.codeIn K cd_is_index "is_index" = true) (k_is_index : PySem.W.keepIn K (.ref f_is_index) = true)
    (a_is_text_of : PySem.W.nsIn K mainGlobals "is_text_of" = some (some (.ref f_is_text_of))) (l_is_text_of : K.lookup f_is_text_of = some ⟨oc_is_text_of, od_is_text_of, .func (PySem.W.fnOf "is_text_of" "is_text_of" (defArgs s_is_text_of) (defBody s_is_text_of) (defScope s_is_text_of) .none kV_is_text_of dc_is_text_of pm_is_text_of an_is_text_of cd_is_text_of ct_is_text_of), sl_is_text_of⟩) (co_is_text_of : PySem.W.codeIn K cd_is_text_of "is_text_of" = true) (k_is_text_of : PySem.W.keepIn K (.ref f_is_text_of) = true)
    (a_is_host_name : PySem.W.nsIn K mainGlobals "is_host_name" = some (some (.ref f_is_host_name))) (l_is_host_name : K.lookup f_is_host_name = some ⟨oc_is_host_name, od_is_host_name, .func (PySem.W.fnOf "is_host_name" "is_host_name" (defArgs s_is_host_name) (defBody s_is_host_name) (defScope s_is_host_name) .none kV_is_host_name dc_is_host_name pm_is_host_name an_is_host_name cd_is_host_name ct_is_host_name), sl_is_host_name⟩) (co_is_host_name : PySem.W.codeIn K cd_is_host_name "is_host_name" = true) (k_is_host_name : PySem.W.keepIn K (.ref f_is_host_name) = true)
    (a_is_word : PySem.W.nsIn K mainGlobals "is_word" = some (some (.ref f_is_word))) (l_is_word : K.lookup f_is_word = some ⟨oc_is_word, od_is_word, .func (PySem.W.fnOf "is_word" "is_word" (defArgs s_is_word) (defBody s_is_word) (defScope s_is_word) .none kV_is_word dc_is_word pm_is_word an_is_word cd_is_word ct_is_word), sl_is_word⟩) (co_is_word : PySem.W.codeIn K cd_is_word "is_word" = true) (k_is_word : PySem.W.keepIn K (.ref f_is_word) = true)
    (a_is_relink_path : PySem.W.nsIn K mainGlobals "is_relink_path" = some (some (.ref f_is_relink_path))) (l_is_relink_path : K.lookup f_is_relink_path = some ⟨oc_is_relink_path, od_is_relink_path, .func (PySem.W.fnOf "is_relink_path" "is_relink_path" (defArgs s_is_relink_path) (defBody s_is_relink_path) (defScope s_is_relink_path) .none kV_is_relink_path dc_is_relink_path pm_is_relink_path an_is_relink_path cd_is_relink_path ct_is_relink_path), sl_is_relink_path⟩) (co_is_relink_path : PySem.W.codeIn K cd_is_relink_path "is_relink_path" = true) (k_is_relink_path : PySem.W.keepIn K (.ref f_is_relink_path) = true)
    (a_is_cut_of : PySem.W.nsIn K mainGlobals "is_cut_of" = some (some (.ref f_is_cut_of))) (l_is_cut_of : K.lookup f_is_cut_of = some ⟨oc_is_cut_of, od_is_cut_of, .func (PySem.W.fnOf "is_cut_of" "is_cut_of" (defArgs s_is_cut_of) (defBody s_is_cut_of) (defScope s_is_cut_of) .none kV_is_cut_of dc_is_cut_of pm_is_cut_of an_is_cut_of cd_is_cut_of ct_is_cut_of), sl_is_cut_of⟩) (co_is_cut_of : PySem.W.codeIn K cd_is_cut_of "is_cut_of" = true) (k_is_cut_of : PySem.W.keepIn K (.ref f_is_cut_of) = true)
    (a_is_relink : PySem.W.nsIn K mainGlobals "is_relink" = some (some (.ref f_is_relink))) (l_is_relink : K.lookup f_is_relink = some ⟨oc_is_relink, od_is_relink, .func (PySem.W.fnOf "is_relink" "is_relink" (defArgs s_is_relink) (defBody s_is_relink) (defScope s_is_relink) .none kV_is_relink dc_is_relink pm_is_relink an_is_relink cd_is_relink ct_is_relink), sl_is_relink⟩) (co_is_relink : PySem.W.codeIn K cd_is_relink "is_relink" = true) (k_is_relink : PySem.W.keepIn K (.ref f_is_relink) = true)
    (a_parse_index : PySem.W.nsIn K mainGlobals "parse_index" = some (some (.ref f_parse_index))) (l_parse_index : K.lookup f_parse_index = some ⟨oc_parse_index, od_parse_index, .func (PySem.W.fnOf "parse_index" "parse_index" (defArgs s_parse_index) (defBody s_parse_index) (defScope s_parse_index) .none kV_parse_index dc_parse_index pm_parse_index an_parse_index cd_parse_index ct_parse_index), sl_parse_index⟩) (co_parse_index : PySem.W.codeIn K cd_parse_index "parse_index" = true) (k_parse_index : PySem.W.keepIn K (.ref f_parse_index) = true)
    (a_relink_text : PySem.W.nsIn K mainGlobals "relink_text" = some (some (.ref f_relink_text))) (l_relink_text : K.lookup f_relink_text = some ⟨oc_relink_text, od_relink_text, .func (PySem.W.fnOf "relink_text" "relink_text" (defArgs s_relink_text) (defBody s_relink_text) (defScope s_relink_text) .none kV_relink_text dc_relink_text pm_relink_text an_relink_text cd_relink_text ct_relink_text), sl_relink_text⟩) (co_relink_text : PySem.W.codeIn K cd_relink_text "relink_text" = true) (k_relink_text : PySem.W.keepIn K (.ref f_relink_text) = true)
    (a_relink_from : PySem.W.nsIn K mainGlobals "relink_from" = some (some (.ref f_relink_from))) (l_relink_from : K.lookup f_relink_from = some ⟨oc_relink_from, od_relink_from, .func (PySem.W.fnOf "relink_from" "relink_from" (defArgs s_relink_from) (defBody s_relink_from) (defScope s_relink_from) .none kV_relink_from dc_relink_from pm_relink_from an_relink_from cd_relink_from ct_relink_from), sl_relink_from⟩) (co_relink_from : PySem.W.codeIn K cd_relink_from "relink_from" = true) (k_relink_from : PySem.W.keepIn K (.ref f_relink_from) = true)
    (a_has_event_form : PySem.W.nsIn K mainGlobals "has_event_form" = some (some (.ref f_has_event_form))) (l_has_event_form : K.lookup f_has_event_form = some ⟨oc_has_event_form, od_has_event_form, .func (PySem.W.fnOf "has_event_form" "has_event_form" (defArgs s_has_event_form) (defBody s_has_event_form) (defScope s_has_event_form) .none kV_has_event_form dc_has_event_form pm_has_event_form an_has_event_form cd_has_event_form ct_has_event_form), sl_has_event_form⟩) (co_has_event_form : PySem.W.codeIn K cd_has_event_form "has_event_form" = true) (k_has_event_form : PySem.W.keepIn K (.ref f_has_event_form) = true)
    (a_is_event : PySem.W.nsIn K mainGlobals "is_event" = some (some (.ref f_is_event))) (l_is_event : K.lookup f_is_event = some ⟨oc_is_event, od_is_event, .func (PySem.W.fnOf "is_event" "is_event" (defArgs s_is_event) (defBody s_is_event) (defScope s_is_event) .none kV_is_event dc_is_event pm_is_event an_is_event cd_is_event ct_is_event), sl_is_event⟩) (co_is_event : PySem.W.codeIn K cd_is_event "is_event" = true) (k_is_event : PySem.W.keepIn K (.ref f_is_event) = true)
    (a_event_text : PySem.W.nsIn K mainGlobals "event_text" = some (some (.ref f_event_text))) (l_event_text : K.lookup f_event_text = some ⟨oc_event_text, od_event_text, .func (PySem.W.fnOf "event_text" "event_text" (defArgs s_event_text) (defBody s_event_text) (defScope s_event_text) .none kV_event_text dc_event_text pm_event_text an_event_text cd_event_text ct_event_text), sl_event_text⟩) (co_event_text : PySem.W.codeIn K cd_event_text "event_text" = true) (k_event_text : PySem.W.keepIn K (.ref f_event_text) = true)
    (a_event_from : PySem.W.nsIn K mainGlobals "event_from" = some (some (.ref f_event_from))) (l_event_from : K.lookup f_event_from = some ⟨oc_event_from, od_event_from, .func (PySem.W.fnOf "event_from" "event_from" (defArgs s_event_from) (defBody s_event_from) (defScope s_event_from) .none kV_event_from dc_event_from pm_event_from an_event_from cd_event_from ct_event_from), sl_event_from⟩) (co_event_from : PySem.W.codeIn K cd_event_from "event_from" = true) (k_event_from : PySem.W.keepIn K (.ref f_event_from) = true)
    (a_parse_event : PySem.W.nsIn K mainGlobals "parse_event" = some (some (.ref f_parse_event))) (l_parse_event : K.lookup f_parse_event = some ⟨oc_parse_event, od_parse_event, .func (PySem.W.fnOf "parse_event" "parse_event" (defArgs s_parse_event) (defBody s_parse_event) (defScope s_parse_event) .none kV_parse_event dc_parse_event pm_parse_event an_parse_event cd_parse_event ct_parse_event), sl_parse_event⟩) (co_parse_event : PySem.W.codeIn K cd_parse_event "parse_event" = true) (k_parse_event : PySem.W.keepIn K (.ref f_parse_event) = true)
    (a_law_rng : PySem.W.nsIn K mainGlobals "_law_rng" = some (some (.ref f_law_rng))) (l_law_rng : K.lookup f_law_rng = some ⟨oc_law_rng, od_law_rng, .func (PySem.W.fnOf "_law_rng" "_law_rng" (defArgs s_law_rng) (defBody s_law_rng) (defScope s_law_rng) .none kV_law_rng dc_law_rng pm_law_rng an_law_rng cd_law_rng ct_law_rng), sl_law_rng⟩) (co_law_rng : PySem.W.codeIn K cd_law_rng "_law_rng" = true) (k_law_rng : PySem.W.keepIn K (.ref f_law_rng) = true)
    (a_law_draw : PySem.W.nsIn K mainGlobals "_law_draw" = some (some (.ref f_law_draw))) (l_law_draw : K.lookup f_law_draw = some ⟨oc_law_draw, od_law_draw, .func (PySem.W.fnOf "_law_draw" "_law_draw" (defArgs s_law_draw) (defBody s_law_draw) (defScope s_law_draw) .none kV_law_draw dc_law_draw pm_law_draw an_law_draw cd_law_draw ct_law_draw), sl_law_draw⟩) (co_law_draw : PySem.W.codeIn K cd_law_draw "_law_draw" = true) (k_law_draw : PySem.W.keepIn K (.ref f_law_draw) = true)
    (a_law_names : PySem.W.nsIn K mainGlobals "_law_names" = some (some (.ref f_law_names))) (l_law_names : K.lookup f_law_names = some ⟨oc_law_names, od_law_names, .func (PySem.W.fnOf "_law_names" "_law_names" (defArgs s_law_names) (defBody s_law_names) (defScope s_law_names) .none kV_law_names dc_law_names pm_law_names an_law_names cd_law_names ct_law_names), sl_law_names⟩) (co_law_names : PySem.W.codeIn K cd_law_names "_law_names" = true) (k_law_names : PySem.W.keepIn K (.ref f_law_names) = true)
    (a_law_shuffled : PySem.W.nsIn K mainGlobals "_law_shuffled" = some (some (.ref f_law_shuffled))) (l_law_shuffled : K.lookup f_law_shuffled = some ⟨oc_law_shuffled, od_law_shuffled, .func (PySem.W.fnOf "_law_shuffled" "_law_shuffled" (defArgs s_law_shuffled) (defBody s_law_shuffled) (defScope s_law_shuffled) .none kV_law_shuffled dc_law_shuffled pm_law_shuffled an_law_shuffled cd_law_shuffled ct_law_shuffled), sl_law_shuffled⟩) (co_law_shuffled : PySem.W.codeIn K cd_law_shuffled "_law_shuffled" = true) (k_law_shuffled : PySem.W.keepIn K (.ref f_law_shuffled) = true)
    (a_law_odd : PySem.W.nsIn K mainGlobals "_law_odd" = some (some (.ref f_law_odd))) (l_law_odd : K.lookup f_law_odd = some ⟨oc_law_odd, od_law_odd, .func (PySem.W.fnOf "_law_odd" "_law_odd" (defArgs s_law_odd) (defBody s_law_odd) (defScope s_law_odd) .none kV_law_odd dc_law_odd pm_law_odd an_law_odd cd_law_odd ct_law_odd), sl_law_odd⟩) (co_law_odd : PySem.W.codeIn K cd_law_odd "_law_odd" = true) (k_law_odd : PySem.W.keepIn K (.ref f_law_odd) = true)
    (a_law_is_name : PySem.W.nsIn K mainGlobals "_law_is_name" = some (some (.ref f_law_is_name))) (l_law_is_name : K.lookup f_law_is_name = some ⟨oc_law_is_name, od_law_is_name, .func (PySem.W.fnOf "_law_is_name" "_law_is_name" (defArgs s_law_is_name) (defBody s_law_is_name) (defScope s_law_is_name) .none kV_law_is_name dc_law_is_name pm_law_is_name an_law_is_name cd_law_is_name ct_law_is_name), sl_law_is_name⟩) (co_law_is_name : PySem.W.codeIn K cd_law_is_name "_law_is_name" = true) (k_law_is_name : PySem.W.keepIn K (.ref f_law_is_name) = true)
    (a_law_is_word : PySem.W.nsIn K mainGlobals "_law_is_word" = some (some (.ref f_law_is_word))) (l_law_is_word : K.lookup f_law_is_word = some ⟨oc_law_is_word, od_law_is_word, .func (PySem.W.fnOf "_law_is_word" "_law_is_word" (defArgs s_law_is_word) (defBody s_law_is_word) (defScope s_law_is_word) .none kV_law_is_word dc_law_is_word pm_law_is_word an_law_is_word cd_law_is_word ct_law_is_word), sl_law_is_word⟩) (co_law_is_word : PySem.W.codeIn K cd_law_is_word "_law_is_word" = true) (k_law_is_word : PySem.W.keepIn K (.ref f_law_is_word) = true)
    (a_law_number : PySem.W.nsIn K mainGlobals "_law_number" = some (some (.ref f_law_number))) (l_law_number : K.lookup f_law_number = some ⟨oc_law_number, od_law_number, .func (PySem.W.fnOf "_law_number" "_law_number" (defArgs s_law_number) (defBody s_law_number) (defScope s_law_number) .none kV_law_number dc_law_number pm_law_number an_law_number cd_law_number ct_law_number), sl_law_number⟩) (co_law_number : PySem.W.codeIn K cd_law_number "_law_number" = true) (k_law_number : PySem.W.keepIn K (.ref f_law_number) = true)
    (a_law_drawn_word : PySem.W.nsIn K mainGlobals "_law_drawn_word" = some (some (.ref f_law_drawn_word))) (l_law_drawn_word : K.lookup f_law_drawn_word = some ⟨oc_law_drawn_word, od_law_drawn_word, .func (PySem.W.fnOf "_law_drawn_word" "_law_drawn_word" (defArgs s_law_drawn_word) (defBody s_law_drawn_word) (defScope s_law_drawn_word) .none kV_law_drawn_word dc_law_drawn_word pm_law_drawn_word an_law_drawn_word cd_law_drawn_word ct_law_drawn_word), sl_law_drawn_word⟩) (co_law_drawn_word : PySem.W.codeIn K cd_law_drawn_word "_law_drawn_word" = true) (k_law_drawn_word : PySem.W.keepIn K (.ref f_law_drawn_word) = true)
    (a_law_drawn : PySem.W.nsIn K mainGlobals "_law_drawn" = some (some (.ref f_law_drawn))) (l_law_drawn : K.lookup f_law_drawn = some ⟨oc_law_drawn, od_law_drawn, .func (PySem.W.fnOf "_law_drawn" "_law_drawn" (defArgs s_law_drawn) (defBody s_law_drawn) (defScope s_law_drawn) .none kV_law_drawn dc_law_drawn pm_law_drawn an_law_drawn cd_law_drawn ct_law_drawn), sl_law_drawn⟩) (co_law_drawn : PySem.W.codeIn K cd_law_drawn "_law_drawn" = true) (k_law_drawn : PySem.W.keepIn K (.ref f_law_drawn) = true)
    (a_law_is_relink : PySem.W.nsIn K mainGlobals "_law_is_relink" = some (some (.ref f_law_is_relink))) (l_law_is_relink : K.lookup f_law_is_relink = some ⟨oc_law_is_relink, od_law_is_relink, .func (PySem.W.fnOf "_law_is_relink" "_law_is_relink" (defArgs s_law_is_relink) (defBody s_law_is_relink) (defScope s_law_is_relink) .none kV_law_is_relink dc_law_is_relink pm_law_is_relink an_law_is_relink cd_law_is_relink ct_law_is_relink), sl_law_is_relink⟩) (co_law_is_relink : PySem.W.codeIn K cd_law_is_relink "_law_is_relink" = true) (k_law_is_relink : PySem.W.keepIn K (.ref f_law_is_relink) = true)
    (a_law_is_event : PySem.W.nsIn K mainGlobals "_law_is_event" = some (some (.ref f_law_is_event))) (l_law_is_event : K.lookup f_law_is_event = some ⟨oc_law_is_event, od_law_is_event, .func (PySem.W.fnOf "_law_is_event" "_law_is_event" (defArgs s_law_is_event) (defBody s_law_is_event) (defScope s_law_is_event) .none kV_law_is_event dc_law_is_event pm_law_is_event an_law_is_event cd_law_is_event ct_law_is_event), sl_law_is_event⟩) (co_law_is_event : PySem.W.codeIn K cd_law_is_event "_law_is_event" = true) (k_law_is_event : PySem.W.keepIn K (.ref f_law_is_event) = true)
    (a_law_text : PySem.W.nsIn K mainGlobals "_law_text" = some (some (.ref f_law_text))) (l_law_text : K.lookup f_law_text = some ⟨oc_law_text, od_law_text, .func (PySem.W.fnOf "_law_text" "_law_text" (defArgs s_law_text) (defBody s_law_text) (defScope s_law_text) .none kV_law_text dc_law_text pm_law_text an_law_text cd_law_text ct_law_text), sl_law_text⟩) (co_law_text : PySem.W.codeIn K cd_law_text "_law_text" = true) (k_law_text : PySem.W.keepIn K (.ref f_law_text) = true)
    (a_law_read : PySem.W.nsIn K mainGlobals "_law_read" = some (some (.ref f_law_read))) (l_law_read : K.lookup f_law_read = some ⟨oc_law_read, od_law_read, .func (PySem.W.fnOf "_law_read" "_law_read" (defArgs s_law_read) (defBody s_law_read) (defScope s_law_read) .none kV_law_read dc_law_read pm_law_read an_law_read cd_law_read ct_law_read), sl_law_read⟩) (co_law_read : PySem.W.codeIn K cd_law_read "_law_read" = true) (k_law_read : PySem.W.keepIn K (.ref f_law_read) = true)
    (a_law_changed : PySem.W.nsIn K mainGlobals "_law_changed" = some (some (.ref f_law_changed))) (l_law_changed : K.lookup f_law_changed = some ⟨oc_law_changed, od_law_changed, .func (PySem.W.fnOf "_law_changed" "_law_changed" (defArgs s_law_changed) (defBody s_law_changed) (defScope s_law_changed) .none kV_law_changed dc_law_changed pm_law_changed an_law_changed cd_law_changed ct_law_changed), sl_law_changed⟩) (co_law_changed : PySem.W.codeIn K cd_law_changed "_law_changed" = true) (k_law_changed : PySem.W.keepIn K (.ref f_law_changed) = true)
    (a_law_text_changed : PySem.W.nsIn K mainGlobals "_law_text_changed" = some (some (.ref f_law_text_changed))) (l_law_text_changed : K.lookup f_law_text_changed = some ⟨oc_law_text_changed, od_law_text_changed, .func (PySem.W.fnOf "_law_text_changed" "_law_text_changed" (defArgs s_law_text_changed) (defBody s_law_text_changed) (defScope s_law_text_changed) .none kV_law_text_changed dc_law_text_changed pm_law_text_changed an_law_text_changed cd_law_text_changed ct_law_text_changed), sl_law_text_changed⟩) (co_law_text_changed : PySem.W.codeIn K cd_law_text_changed "_law_text_changed" = true) (k_law_text_changed : PySem.W.keepIn K (.ref f_law_text_changed) = true)
    (a_law_told : PySem.W.nsIn K mainGlobals "_law_told" = some (some (.ref f_law_told))) (l_law_told : K.lookup f_law_told = some ⟨oc_law_told, od_law_told, .func (PySem.W.fnOf "_law_told" "_law_told" (defArgs s_law_told) (defBody s_law_told) (defScope s_law_told) .none kV_law_told dc_law_told pm_law_told an_law_told cd_law_told ct_law_told), sl_law_told⟩) (co_law_told : PySem.W.codeIn K cd_law_told "_law_told" = true) (k_law_told : PySem.W.keepIn K (.ref f_law_told) = true)
    (a_law_both_right : PySem.W.nsIn K mainGlobals "_law_both_right" = some (some (.ref f_law_both_right))) (l_law_both_right : K.lookup f_law_both_right = some ⟨oc_law_both_right, od_law_both_right, .func (PySem.W.fnOf "_law_both_right" "_law_both_right" (defArgs s_law_both_right) (defBody s_law_both_right) (defScope s_law_both_right) .none kV_law_both_right dc_law_both_right pm_law_both_right an_law_both_right cd_law_both_right ct_law_both_right), sl_law_both_right⟩) (co_law_both_right : PySem.W.codeIn K cd_law_both_right "_law_both_right" = true) (k_law_both_right : PySem.W.keepIn K (.ref f_law_both_right) = true)
    (a_law : PySem.W.nsIn K mainGlobals "law" = some (some (.ref f_law))) (l_law : K.lookup f_law = some ⟨oc_law, od_law, .func (PySem.W.fnOf "law" "law" (defArgs s_law) (defBody s_law) (defScope s_law) .none kV_law dc_law pm_law an_law cd_law ct_law), sl_law⟩) (co_law : PySem.W.codeIn K cd_law "law" = true) (k_law : PySem.W.keepIn K (.ref f_law) = true)
    (v_LETTERS : PySem.W.nsIn K mainGlobals "LETTERS" = some (some (.str LET t_LETTERS)))
    (v_DIGITS : PySem.W.nsIn K mainGlobals "DIGITS" = some (some (.str DIG t_DIGITS)))
    (v_LONGEST_NAME : PySem.W.nsIn K mainGlobals "LONGEST_NAME" = some (some (.int 8 t_LONGEST_NAME)))
    (v_LONGEST_WORD : PySem.W.nsIn K mainGlobals "LONGEST_WORD" = some (some (.int 12 t_LONGEST_WORD)))
    (v_SHORTEST_PATH : PySem.W.nsIn K mainGlobals "SHORTEST_PATH" = some (some (.int 3 t_SHORTEST_PATH)))
    (z_len : PySem.W.nsIn K mainGlobals "len" = some none)
    (z_range : PySem.W.nsIn K mainGlobals "range" = some none)
    (z_abs : PySem.W.nsIn K mainGlobals "abs" = some none)
    (z_max : PySem.W.nsIn K mainGlobals "max" = some none)
    (z_min : PySem.W.nsIn K mainGlobals "min" = some none)
    (z_divmod : PySem.W.nsIn K mainGlobals "divmod" = some none)
    (z_isinstance : PySem.W.nsIn K mainGlobals "isinstance" = some none)
    (z_str : PySem.W.nsIn K mainGlobals "str" = some none)
    (z_int : PySem.W.nsIn K mainGlobals "int" = some none)
    (z_bool : PySem.W.nsIn K mainGlobals "bool" = some none)
    (z_tuple : PySem.W.nsIn K mainGlobals "tuple" = some none)
    (z_list : PySem.W.nsIn K mainGlobals "list" = some none)
    (z_set : PySem.W.nsIn K mainGlobals "set" = some none)
    (z_dict : PySem.W.nsIn K mainGlobals "dict" = some none)
    (z_all : PySem.W.nsIn K mainGlobals "all" = some none)
    (z_any : PySem.W.nsIn K mainGlobals "any" = some none)
    (z_repr : PySem.W.nsIn K mainGlobals "repr" = some none)
    (z_sorted : PySem.W.nsIn K mainGlobals "sorted" = some none)
    (z_enumerate : PySem.W.nsIn K mainGlobals "enumerate" = some none)
    (z_zip : PySem.W.nsIn K mainGlobals "zip" = some none)
    (e_InvalidEvent : PySem.W.nsIn K mainGlobals "InvalidEvent" = some (some (.ref c_InvalidEvent))) (S_InvalidEvent : XCl K c_InvalidEvent ∧ ∀ (P : Program) (w : World) (mg : Str → Option Value) (base : Heap), mg "InvalidEvent" = some (.ref c_InvalidEvent) → Rz P w K mg base "InvalidEvent" "value" c_InvalidEvent)
    (e_InvalidText : PySem.W.nsIn K mainGlobals "InvalidText" = some (some (.ref c_InvalidText))) (S_InvalidText : XCl K c_InvalidText ∧ ∀ (P : Program) (w : World) (mg : Str → Option Value) (base : Heap), mg "InvalidText" = some (.ref c_InvalidText) → Rz P w K mg base "InvalidText" "value" c_InvalidText)
    (v_ES : PySem.W.nsIn K mainGlobals "EVENT_SIZES" = some (some (.ref ea)))
    (l_ES : K.lookup ea = some ⟨.type "dict", none, .dict es_e n_e, #[]⟩)
    (q_ES : PySem.W.KeysLit w.params es_e.toList)
    (lo_ES : (ea == sysModules) = false)
    (a_ES : EvAt es_e)
    (cg : PySem.W.specialIn K (.builtin "object.__class__") "__get__" = some (some (.builtin "getset_descriptor.__get__")))
    (ct : PySem.W.takesIn K (.builtin "object.__class__") = some true)
    (cl_C : PySem.W.clsIn K c_InvalidEvent = some cd_C)
    (tP_C : PySem.W.typeIn K (.ref c_InvalidEvent) = some (.type "type"))
    (cl_T : PySem.W.clsIn K c_InvalidText = some cd_T)
    (tP_T : PySem.W.typeIn K (.ref c_InvalidText) = some (.type "type"))
    (e_RelinkTreeError : PySem.W.nsIn K mainGlobals "RelinkTreeError" = some (some (.ref c_RelinkTreeError)))
    (cl_R : PySem.W.clsIn K c_RelinkTreeError = some cd_R)
    (tP_R : PySem.W.typeIn K (.ref c_RelinkTreeError) = some (.type "type"))
    (e_InvalidLine : PySem.W.nsIn K mainGlobals "InvalidLine" = some (some (.ref c_InvalidLine)))
    (cl_N : PySem.W.clsIn K c_InvalidLine = some cd_N)
    (tP_N : PySem.W.typeIn K (.ref c_InvalidLine) = some (.type "type"))
    (bP_C : PySem.W.subIn K (.ref c_InvalidEvent) (.type "BaseException") = some true)
    (s_CC : PySem.W.subIn K (.ref c_InvalidEvent) (.ref c_InvalidEvent) = some true)
    (s_TC : PySem.W.subIn K (.ref c_InvalidText) (.ref c_InvalidEvent) = some false)
    (bP_T : PySem.W.subIn K (.ref c_InvalidText) (.type "BaseException") = some true)
    (s_TT : PySem.W.subIn K (.ref c_InvalidText) (.ref c_InvalidText) = some true)
    (ne_CR : c_InvalidEvent ≠ c_RelinkTreeError)
    (s_CR : PySem.W.subIn K (.ref c_InvalidEvent) (.ref c_RelinkTreeError) = some true)
    (ne_TR : c_InvalidText ≠ c_RelinkTreeError)
    (s_TR : PySem.W.subIn K (.ref c_InvalidText) (.ref c_RelinkTreeError) = some true)
    (ne_TN : c_InvalidText ≠ c_InvalidLine)
    (s_TN : PySem.W.subIn K (.ref c_InvalidText) (.ref c_InvalidLine) = some false)
    (f_Cvalue : PySem.W.findIn K (.ref c_InvalidEvent) "value" = some none)
    (f_Tvalue : PySem.W.findIn K (.ref c_InvalidText) "value" = some none) :
    ∃ fd : FuncData, (∀ (s : Shared) (v : Value), BindsTo s fd ⟨[v], []⟩ [("_law_script", v)]) ∧ ∀ base : Heap, K.In base → base.Ns mainGlobals mg → FnG l.prog w K mg base CX0 9 fa fd ["_law_script"] (spLaw K) := by
  have e := hfa.symm.trans (PySem.W.mg_of X G a_law)
  cases e
  have F_is_integer_from := fun_mk (st := s_is_integer_from) l_is_integer_from co_is_integer_from k_is_integer_from
  have b_is_integer_from := F_is_integer_from.binds (ps := ["value", "least"]) fun _ _ _ _ _ _ us hl => match us, hl with | [_, _], _ => rfl
  have m_is_integer_from := PySem.W.mg_of X G a_is_integer_from
  have F_is_index := fun_mk (st := s_is_index) l_is_index co_is_index k_is_index
  have b_is_index := F_is_index.binds (ps := ["value", "size"]) fun _ _ _ _ _ _ us hl => match us, hl with | [_, _], _ => rfl
  have m_is_index := PySem.W.mg_of X G a_is_index
  have F_is_text_of := fun_mk (st := s_is_text_of) l_is_text_of co_is_text_of k_is_text_of
  have b_is_text_of := F_is_text_of.binds (ps := ["value", "characters", "longest"]) fun _ _ _ _ _ _ us hl => match us, hl with | [_, _, _], _ => rfl
  have m_is_text_of := PySem.W.mg_of X G a_is_text_of
  have F_is_host_name := fun_mk (st := s_is_host_name) l_is_host_name co_is_host_name k_is_host_name
  have b_is_host_name := F_is_host_name.binds (ps := ["value"]) fun _ _ _ _ _ _ us hl => match us, hl with | [_], _ => rfl
  have m_is_host_name := PySem.W.mg_of X G a_is_host_name
  have F_is_word := fun_mk (st := s_is_word) l_is_word co_is_word k_is_word
  have b_is_word := F_is_word.binds (ps := ["value"]) fun _ _ _ _ _ _ us hl => match us, hl with | [_], _ => rfl
  have m_is_word := PySem.W.mg_of X G a_is_word
  have F_is_relink_path := fun_mk (st := s_is_relink_path) l_is_relink_path co_is_relink_path k_is_relink_path
  have b_is_relink_path := F_is_relink_path.binds (ps := ["value"]) fun _ _ _ _ _ _ us hl => match us, hl with | [_], _ => rfl
  have m_is_relink_path := PySem.W.mg_of X G a_is_relink_path
  have F_is_cut_of := fun_mk (st := s_is_cut_of) l_is_cut_of co_is_cut_of k_is_cut_of
  have b_is_cut_of := F_is_cut_of.binds (ps := ["path", "value"]) fun _ _ _ _ _ _ us hl => match us, hl with | [_, _], _ => rfl
  have m_is_cut_of := PySem.W.mg_of X G a_is_cut_of
  have F_is_relink := fun_mk (st := s_is_relink) l_is_relink co_is_relink k_is_relink
  have b_is_relink := F_is_relink.binds (ps := ["value"]) fun _ _ _ _ _ _ us hl => match us, hl with | [_], _ => rfl
  have m_is_relink := PySem.W.mg_of X G a_is_relink
  have F_parse_index := fun_mk (st := s_parse_index) l_parse_index co_parse_index k_parse_index
  have b_parse_index := F_parse_index.binds (ps := ["text", "size"]) fun _ _ _ _ _ _ us hl => match us, hl with | [_, _], _ => rfl
  have m_parse_index := PySem.W.mg_of X G a_parse_index
  have F_relink_text := fun_mk (st := s_relink_text) l_relink_text co_relink_text k_relink_text
  have b_relink_text := F_relink_text.binds (ps := ["relink"]) fun _ _ _ _ _ _ us hl => match us, hl with | [_], _ => rfl
  have m_relink_text := PySem.W.mg_of X G a_relink_text
  have F_relink_from := fun_mk (st := s_relink_from) l_relink_from co_relink_from k_relink_from
  have b_relink_from := F_relink_from.binds (ps := ["hosts", "cut"]) fun _ _ _ _ _ _ us hl => match us, hl with | [_, _], _ => rfl
  have m_relink_from := PySem.W.mg_of X G a_relink_from
  have F_has_event_form := fun_mk (st := s_has_event_form) l_has_event_form co_has_event_form k_has_event_form
  have b_has_event_form := F_has_event_form.binds (ps := ["value"]) fun _ _ _ _ _ _ us hl => match us, hl with | [_], _ => rfl
  have m_has_event_form := PySem.W.mg_of X G a_has_event_form
  have F_is_event := fun_mk (st := s_is_event) l_is_event co_is_event k_is_event
  have b_is_event := F_is_event.binds (ps := ["value"]) fun _ _ _ _ _ _ us hl => match us, hl with | [_], _ => rfl
  have m_is_event := PySem.W.mg_of X G a_is_event
  have F_event_text := fun_mk (st := s_event_text) l_event_text co_event_text k_event_text
  have b_event_text := F_event_text.binds (ps := ["event"]) fun _ _ _ _ _ _ us hl => match us, hl with | [_], _ => rfl
  have m_event_text := PySem.W.mg_of X G a_event_text
  have F_event_from := fun_mk (st := s_event_from) l_event_from co_event_from k_event_from
  have b_event_from := F_event_from.binds (ps := ["parts"]) fun _ _ _ _ _ _ us hl => match us, hl with | [_], _ => rfl
  have m_event_from := PySem.W.mg_of X G a_event_from
  have F_parse_event := fun_mk (st := s_parse_event) l_parse_event co_parse_event k_parse_event
  have b_parse_event := F_parse_event.binds (ps := ["text"]) fun _ _ _ _ _ _ us hl => match us, hl with | [_], _ => rfl
  have m_parse_event := PySem.W.mg_of X G a_parse_event
  have F_law_rng := fun_mk (st := s_law_rng) l_law_rng co_law_rng k_law_rng
  have b_law_rng := F_law_rng.binds (ps := ["_law_script", "_law_k"]) fun _ _ _ _ _ _ us hl => match us, hl with | [_, _], _ => rfl
  have m_law_rng := PySem.W.mg_of X G a_law_rng
  have F_law_draw := fun_mk (st := s_law_draw) l_law_draw co_law_draw k_law_draw
  have b_law_draw := F_law_draw.binds (ps := ["_law_rng_here", "_law_many"]) fun _ _ _ _ _ _ us hl => match us, hl with | [_, _], _ => rfl
  have m_law_draw := PySem.W.mg_of X G a_law_draw
  have F_law_names := fun_mk (st := s_law_names) l_law_names co_law_names k_law_names
  have b_law_names := F_law_names.binds (ps := ["_law_rng_here", "_law_many"]) fun _ _ _ _ _ _ us hl => match us, hl with | [_, _], _ => rfl
  have m_law_names := PySem.W.mg_of X G a_law_names
  have F_law_shuffled := fun_mk (st := s_law_shuffled) l_law_shuffled co_law_shuffled k_law_shuffled
  have b_law_shuffled := F_law_shuffled.binds (ps := ["_law_rng_here", "_law_some"]) fun _ _ _ _ _ _ us hl => match us, hl with | [_, _], _ => rfl
  have m_law_shuffled := PySem.W.mg_of X G a_law_shuffled
  have F_law_odd := fun_mk (st := s_law_odd) l_law_odd co_law_odd k_law_odd
  have b_law_odd := F_law_odd.binds (ps := ["_law_rng_here"]) fun _ _ _ _ _ _ us hl => match us, hl with | [_], _ => rfl
  have m_law_odd := PySem.W.mg_of X G a_law_odd
  have F_law_is_name := fun_mk (st := s_law_is_name) l_law_is_name co_law_is_name k_law_is_name
  have b_law_is_name := F_law_is_name.binds (ps := ["_law_value"]) fun _ _ _ _ _ _ us hl => match us, hl with | [_], _ => rfl
  have m_law_is_name := PySem.W.mg_of X G a_law_is_name
  have F_law_is_word := fun_mk (st := s_law_is_word) l_law_is_word co_law_is_word k_law_is_word
  have b_law_is_word := F_law_is_word.binds (ps := ["_law_value"]) fun _ _ _ _ _ _ us hl => match us, hl with | [_], _ => rfl
  have m_law_is_word := PySem.W.mg_of X G a_law_is_word
  have F_law_number := fun_mk (st := s_law_number) l_law_number co_law_number k_law_number
  have b_law_number := F_law_number.binds (ps := ["_law_word"]) fun _ _ _ _ _ _ us hl => match us, hl with | [_], _ => rfl
  have m_law_number := PySem.W.mg_of X G a_law_number
  have F_law_drawn_word := fun_mk (st := s_law_drawn_word) l_law_drawn_word co_law_drawn_word k_law_drawn_word
  have b_law_drawn_word := F_law_drawn_word.binds (ps := ["_law_rng_here"]) fun _ _ _ _ _ _ us hl => match us, hl with | [_], _ => rfl
  have m_law_drawn_word := PySem.W.mg_of X G a_law_drawn_word
  have F_law_drawn := fun_mk (st := s_law_drawn) l_law_drawn co_law_drawn k_law_drawn
  have b_law_drawn := F_law_drawn.binds (ps := ["_law_rng_here", "_law_kind"]) fun _ _ _ _ _ _ us hl => match us, hl with | [_, _], _ => rfl
  have m_law_drawn := PySem.W.mg_of X G a_law_drawn
  have F_law_is_relink := fun_mk (st := s_law_is_relink) l_law_is_relink co_law_is_relink k_law_is_relink
  have b_law_is_relink := F_law_is_relink.binds (ps := ["_law_parts"]) fun _ _ _ _ _ _ us hl => match us, hl with | [_], _ => rfl
  have m_law_is_relink := PySem.W.mg_of X G a_law_is_relink
  have F_law_is_event := fun_mk (st := s_law_is_event) l_law_is_event co_law_is_event k_law_is_event
  have b_law_is_event := F_law_is_event.binds (ps := ["_law_value"]) fun _ _ _ _ _ _ us hl => match us, hl with | [_], _ => rfl
  have m_law_is_event := PySem.W.mg_of X G a_law_is_event
  have F_law_text := fun_mk (st := s_law_text) l_law_text co_law_text k_law_text
  have b_law_text := F_law_text.binds (ps := ["_law_value"]) fun _ _ _ _ _ _ us hl => match us, hl with | [_], _ => rfl
  have m_law_text := PySem.W.mg_of X G a_law_text
  have F_law_read := fun_mk (st := s_law_read) l_law_read co_law_read k_law_read
  have b_law_read := F_law_read.binds (ps := ["_law_said"]) fun _ _ _ _ _ _ us hl => match us, hl with | [_], _ => rfl
  have m_law_read := PySem.W.mg_of X G a_law_read
  have F_law_changed := fun_mk (st := s_law_changed) l_law_changed co_law_changed k_law_changed
  have b_law_changed := F_law_changed.binds (ps := ["_law_rng_here", "_law_value"]) fun _ _ _ _ _ _ us hl => match us, hl with | [_, _], _ => rfl
  have m_law_changed := PySem.W.mg_of X G a_law_changed
  have F_law_text_changed := fun_mk (st := s_law_text_changed) l_law_text_changed co_law_text_changed k_law_text_changed
  have b_law_text_changed := F_law_text_changed.binds (ps := ["_law_rng_here", "_law_said"]) fun _ _ _ _ _ _ us hl => match us, hl with | [_, _], _ => rfl
  have m_law_text_changed := PySem.W.mg_of X G a_law_text_changed
  have F_law_told := fun_mk (st := s_law_told) l_law_told co_law_told k_law_told
  have b_law_told := F_law_told.binds (ps := ["_law_way", "_law_value"]) fun _ _ _ _ _ _ us hl => match us, hl with | [_, _], _ => rfl
  have m_law_told := PySem.W.mg_of X G a_law_told
  have F_law_both_right := fun_mk (st := s_law_both_right) l_law_both_right co_law_both_right k_law_both_right
  have b_law_both_right := F_law_both_right.binds (ps := ["_law_value", "_law_said"]) fun _ _ _ _ _ _ us hl => match us, hl with | [_, _], _ => rfl
  have m_law_both_right := PySem.W.mg_of X G a_law_both_right
  have F_law := fun_mk (st := s_law) l_law co_law k_law
  have b_law := F_law.binds (ps := ["_law_script"]) fun _ _ _ _ _ _ us hl => match us, hl with | [_], _ => rfl
  have m_law := PySem.W.mg_of X G a_law
  have w_LETTERS := PySem.W.mg_of X G v_LETTERS
  have w_DIGITS := PySem.W.mg_of X G v_DIGITS
  have w_LONGEST_NAME := PySem.W.mg_of X G v_LONGEST_NAME
  have w_LONGEST_WORD := PySem.W.mg_of X G v_LONGEST_WORD
  have w_SHORTEST_PATH := PySem.W.mg_of X G v_SHORTEST_PATH
  have Y : Bn mg := ⟨PySem.W.mg_none_of X G z_len, PySem.W.mg_none_of X G z_range, PySem.W.mg_none_of X G z_abs, PySem.W.mg_none_of X G z_max, PySem.W.mg_none_of X G z_min, PySem.W.mg_none_of X G z_divmod, PySem.W.mg_none_of X G z_isinstance, PySem.W.mg_none_of X G z_str, PySem.W.mg_none_of X G z_int, PySem.W.mg_none_of X G z_bool, PySem.W.mg_none_of X G z_tuple, PySem.W.mg_none_of X G z_list, PySem.W.mg_none_of X G z_set, PySem.W.mg_none_of X G z_dict, PySem.W.mg_none_of X G z_all, PySem.W.mg_none_of X G z_any, PySem.W.mg_none_of X G z_repr, PySem.W.mg_none_of X G z_sorted, PySem.W.mg_none_of X G z_enumerate, PySem.W.mg_none_of X G z_zip⟩
  refine ⟨PySem.W.fnOf "law" "law" (defArgs s_law) (defBody s_law) (defScope s_law) .none kV_law dc_law pm_law an_law cd_law ct_law, fun s v => .of_eq rfl, fun base _ _ => ?_⟩
  have R_InvalidEvent := S_InvalidEvent.2 l.prog w mg base (PySem.W.mg_of X G e_InvalidEvent)
  have R_InvalidText := S_InvalidText.2 l.prog w mg base (PySem.W.mg_of X G e_InvalidText)
  have TC : TxtC mg := ⟨⟨_, w_LETTERS⟩, ⟨_, w_LONGEST_NAME⟩⟩
  have TW : TxtW mg := ⟨⟨_, w_DIGITS⟩, ⟨_, w_LONGEST_WORD⟩⟩
  have TE : TxtE K w mg := ⟨ea, PySem.W.mg_of X G v_ES, kfn_of l_ES q_ES lo_ES a_ES⟩
  have X3 : X93 K c_InvalidEvent c_InvalidText c_RelinkTreeError c_InvalidLine := ⟨S_InvalidEvent.1, S_InvalidText.1, (exm_of bP_C cl_C tP_C s_CC), (exm_of bP_C cl_C tP_C s_TC), (exm_of bP_T cl_T tP_T s_TT), (kit_sub ne_CR cl_R tP_R s_CR), (kit_sub ne_TR cl_R tP_R s_TR), (kit_sub ne_TN cl_N tP_N s_TN), f_Cvalue, f_Tvalue⟩
  have G_is_integer_from := (⟨⟨_, _, m_is_integer_from, k_is_integer_from, b_is_integer_from, ok_from F_is_integer_from Y⟩⟩ : Fk l.prog w K mg base _ _ "is_integer_from" _ _)
  have G_is_index := (⟨⟨_, _, m_is_index, k_is_index, b_is_index, ok_idx F_is_index G_is_integer_from⟩⟩ : Fk l.prog w K mg base _ _ "is_index" _ _)
  have G_is_text_of := (⟨⟨_, _, m_is_text_of, k_is_text_of, b_is_text_of, ok_text F_is_text_of Y⟩⟩ : Fk l.prog w K mg base _ _ "is_text_of" _ _)
  have G_is_host_name := (⟨⟨_, _, m_is_host_name, k_is_host_name, b_is_host_name, ok_host F_is_host_name TC G_is_text_of⟩⟩ : Fk l.prog w K mg base _ _ "is_host_name" _ _)
  have G_is_word := (⟨⟨_, _, m_is_word, k_is_word, b_is_word, ok_word F_is_word TC TW G_is_text_of⟩⟩ : Fk l.prog w K mg base _ _ "is_word" _ _)
  have G_is_relink_path := (⟨⟨_, _, m_is_relink_path, k_is_relink_path, b_is_relink_path, ok_path F_is_relink_path Y ⟨_, w_SHORTEST_PATH⟩ G_is_host_name⟩⟩ : Fk l.prog w K mg base _ _ "is_relink_path" _ _)
  have G_is_cut_of := (⟨⟨_, _, m_is_cut_of, k_is_cut_of, b_is_cut_of, ok_cut F_is_cut_of Y G_is_index⟩⟩ : Fk l.prog w K mg base _ _ "is_cut_of" _ _)
  have G_is_relink := (⟨⟨_, _, m_is_relink, k_is_relink, b_is_relink, ok_rel F_is_relink Y G_is_relink_path G_is_cut_of⟩⟩ : Fk l.prog w K mg base _ _ "is_relink" _ _)
  have G_parse_index := (⟨⟨_, _, m_parse_index, k_parse_index, b_parse_index, ok_pi F_parse_index Y⟩⟩ : Fk l.prog w K mg base _ _ "parse_index" _ _)
  have G_relink_text := (⟨⟨_, _, m_relink_text, k_relink_text, b_relink_text, ok_rt F_relink_text⟩⟩ : Fk l.prog w K mg base _ _ "relink_text" _ _)
  have G_relink_from := (⟨⟨_, _, m_relink_from, k_relink_from, b_relink_from, ok_rf F_relink_from Y G_parse_index⟩⟩ : Fk l.prog w K mg base _ _ "relink_from" _ _)
  have G_has_event_form := (⟨⟨_, _, m_has_event_form, k_has_event_form, b_has_event_form, ok_form F_has_event_form Y TE⟩⟩ : Fk l.prog w K mg base _ _ "has_event_form" _ _)
  have G_is_event := (⟨⟨_, _, m_is_event, k_is_event, b_is_event, ok_ev F_is_event Y G_has_event_form G_is_relink G_is_host_name G_is_word⟩⟩ : Fk l.prog w K mg base _ _ "is_event" _ _)
  have G_event_text := (⟨⟨_, _, m_event_text, k_event_text, b_event_text, ok_et F_event_text R_InvalidEvent G_is_event G_relink_text⟩⟩ : Fk l.prog w K mg base _ _ "event_text" _ _)
  have G_event_from := (⟨⟨_, _, m_event_from, k_event_from, b_event_from, ok_ef F_event_from Y G_relink_from⟩⟩ : Fk l.prog w K mg base _ _ "event_from" _ _)
  have G_parse_event := (⟨⟨_, _, m_parse_event, k_parse_event, b_parse_event, ok_pe F_parse_event Y R_InvalidText G_event_from G_is_event⟩⟩ : Fk l.prog w K mg base _ _ "parse_event" _ _)
  have GK_event_text := (⟨⟨_, _, _, m_event_text, k_event_text, kbn_fwd F_event_text (ps := ["event"]) (ks := ["event"]) (n := 0) (fun _ _ _ _ _ _ us ws h1 h2 => match us, ws, h1, h2 with | [], [_], _, _ => rfl), ok_et F_event_text R_InvalidEvent G_is_event G_relink_text⟩⟩ : Fw l.prog w K mg base _ _ "event_text" _ _ _ _ _)
  have GK_parse_event := (⟨⟨_, _, _, m_parse_event, k_parse_event, kbn_fwd F_parse_event (ps := ["text"]) (ks := ["text"]) (n := 0) (fun _ _ _ _ _ _ us ws h1 h2 => match us, ws, h1, h2 with | [], [_], _, _ => rfl), ok_pe F_parse_event Y R_InvalidText G_event_from G_is_event⟩⟩ : Fw l.prog w K mg base _ _ "parse_event" _ _ _ _ _)
  have G_law_rng := (⟨⟨_, _, m_law_rng, k_law_rng, b_law_rng, ok_pot F_law_rng Y⟩⟩ : Fk l.prog w K mg base _ _ "_law_rng" _ _)
  have G_law_draw := (⟨⟨_, _, m_law_draw, k_law_draw, b_law_draw, ok_draw F_law_draw Y⟩⟩ : Fk l.prog w K mg base _ _ "_law_draw" _ _)
  have G_law_names := (⟨⟨_, _, m_law_names, k_law_names, b_law_names, ok_names F_law_names Y G_law_draw⟩⟩ : Fk l.prog w K mg base _ _ "_law_names" _ _)
  have G_law_shuffled := (⟨⟨_, _, m_law_shuffled, k_law_shuffled, b_law_shuffled, ok_shuf F_law_shuffled Y G_law_draw⟩⟩ : Fk l.prog w K mg base _ _ "_law_shuffled" _ _)
  have G_law_odd := (⟨⟨_, _, m_law_odd, k_law_odd, b_law_odd, ok_odd F_law_odd Y G_law_draw⟩⟩ : Fk l.prog w K mg base _ _ "_law_odd" _ _)
  have G_law_is_name := (⟨⟨_, _, m_law_is_name, k_law_is_name, b_law_is_name, ok_isName F_law_is_name Y⟩⟩ : Fk l.prog w K mg base _ _ "_law_is_name" _ _)
  have G_law_is_word := (⟨⟨_, _, m_law_is_word, k_law_is_word, b_law_is_word, ok_isWord F_law_is_word Y⟩⟩ : Fk l.prog w K mg base _ _ "_law_is_word" _ _)
  have G_law_number := (⟨⟨_, _, m_law_number, k_law_number, b_law_number, ok_num F_law_number Y⟩⟩ : Fk l.prog w K mg base _ _ "_law_number" _ _)
  have G_law_drawn_word := (⟨⟨_, _, m_law_drawn_word, k_law_drawn_word, b_law_drawn_word, ok_wordD F_law_drawn_word Y G_law_draw⟩⟩ : Fk l.prog w K mg base _ _ "_law_drawn_word" _ _)
  have G_law_drawn := (⟨⟨_, _, m_law_drawn, k_law_drawn, b_law_drawn, ok_drawn F_law_drawn Y G_law_draw G_law_names G_law_shuffled G_law_drawn_word⟩⟩ : Fk l.prog w K mg base _ _ "_law_drawn" _ _)
  have G_law_is_relink := (⟨⟨_, _, m_law_is_relink, k_law_is_relink, b_law_is_relink, ok_isRl F_law_is_relink Y G_law_is_name⟩⟩ : Fk l.prog w K mg base _ _ "_law_is_relink" _ _)
  have G_law_is_event := (⟨⟨_, _, m_law_is_event, k_law_is_event, b_law_is_event, ok_isEv F_law_is_event Y G_law_is_name G_law_is_word G_law_is_relink⟩⟩ : Fk l.prog w K mg base _ _ "_law_is_event" _ _)
  have G_law_text := (⟨⟨_, _, m_law_text, k_law_text, b_law_text, ok_lt F_law_text Y⟩⟩ : Fk l.prog w K mg base _ _ "_law_text" _ _)
  have G_law_read := (⟨⟨_, _, m_law_read, k_law_read, b_law_read, ok_read F_law_read Y G_law_number G_law_is_event⟩⟩ : Fk l.prog w K mg base _ _ "_law_read" _ _)
  have G_law_changed := (⟨⟨_, _, m_law_changed, k_law_changed, b_law_changed, ok_chg F_law_changed Y G_law_draw G_law_odd⟩⟩ : Fk l.prog w K mg base _ _ "_law_changed" _ _)
  have G_law_text_changed := (⟨⟨_, _, m_law_text_changed, k_law_text_changed, b_law_text_changed, ok_tc F_law_text_changed Y G_law_draw G_law_odd⟩⟩ : Fk l.prog w K mg base _ _ "_law_text_changed" _ _)
  have G_law_told := (⟨⟨_, _, m_law_told, k_law_told, b_law_told, ok_told F_law_told Y (PySem.W.mg_of X G e_InvalidEvent) (PySem.W.mg_of X G e_InvalidText) (PySem.W.mg_of X G e_RelinkTreeError) (PySem.W.mg_of X G e_InvalidLine) X3 ⟨cg, ct⟩ GK_event_text GK_parse_event⟩⟩ : Fg l.prog w K mg base _ _ "_law_told" _ _)
  have G_law_both_right := (⟨⟨_, _, m_law_both_right, k_law_both_right, b_law_both_right, ok_both F_law_both_right Y G_law_is_event G_law_text G_law_read G_law_told⟩⟩ : Fg l.prog w K mg base _ _ "_law_both_right" _ _)
  exact ok_law F_law Y G_law_rng G_law_draw G_law_drawn G_law_text G_event_text G_parse_event G_law_odd G_law_changed G_law_text_changed G_law_both_right
end My

open PySem PySem.W PyProof.Rows in
set_option maxRecDepth 100000 in
set_option maxHeartbeats 0 in
theorem PySem.Challenge.cw_relinktree_k93_event_texts_holds : PySem.Challenge.rw_relinktree_k93_event_texts.Holds := by
  w_on; o_law; k_head; (case hw => w_witness2)
  k_fill
  refine Gy.walk_g (l := PySem.Challenge.rw_relinktree_k93_event_texts) (n := 63) (k := 9) (x := "_law_script") (sp := My.spLaw) rfl (by decide) rfl ⟨rfl, by decide, by decide⟩ (fun w h Y => PySem.W.kIn_of Y) ?F (fun K H a ns hl hS => ⟨a, ns, rfl, hS, hl, fun _ => rfl⟩)
  case F =>
    intro w mg fa h KX G hmg
    refine' My.all_mk KX G hmg ?a_is_integer_from ?l_is_integer_from ?co_is_integer_from ?k_is_integer_from ?a_is_index ?l_is_index ?co_is_index ?k_is_index ?a_is_text_of ?l_is_text_of ?co_is_text_of ?k_is_text_of ?a_is_host_name ?l_is_host_name ?co_is_host_name ?k_is_host_name ?a_is_word ?l_is_word ?co_is_word ?k_is_word ?a_is_relink_path ?l_is_relink_path ?co_is_relink_path ?k_is_relink_path ?a_is_cut_of ?l_is_cut_of ?co_is_cut_of ?k_is_cut_of ?a_is_relink ?l_is_relink ?co_is_relink ?k_is_relink ?a_parse_index ?l_parse_index ?co_parse_index ?k_parse_index ?a_relink_text ?l_relink_text ?co_relink_text ?k_relink_text ?a_relink_from ?l_relink_from ?co_relink_from ?k_relink_from ?a_has_event_form ?l_has_event_form ?co_has_event_form ?k_has_event_form ?a_is_event ?l_is_event ?co_is_event ?k_is_event ?a_event_text ?l_event_text ?co_event_text ?k_event_text ?a_event_from ?l_event_from ?co_event_from ?k_event_from ?a_parse_event ?l_parse_event ?co_parse_event ?k_parse_event ?a_law_rng ?l_law_rng ?co_law_rng ?k_law_rng ?a_law_draw ?l_law_draw ?co_law_draw ?k_law_draw ?a_law_names ?l_law_names ?co_law_names ?k_law_names ?a_law_shuffled ?l_law_shuffled ?co_law_shuffled ?k_law_shuffled ?a_law_odd ?l_law_odd ?co_law_odd ?k_law_odd ?a_law_is_name ?l_law_is_name ?co_law_is_name ?k_law_is_name ?a_law_is_word ?l_law_is_word ?co_law_is_word ?k_law_is_word ?a_law_number ?l_law_number ?co_law_number ?k_law_number ?a_law_drawn_word ?l_law_drawn_word ?co_law_drawn_word ?k_law_drawn_word ?a_law_drawn ?l_law_drawn ?co_law_drawn ?k_law_drawn ?a_law_is_relink ?l_law_is_relink ?co_law_is_relink ?k_law_is_relink ?a_law_is_event ?l_law_is_event ?co_law_is_event ?k_law_is_event ?a_law_text ?l_law_text ?co_law_text ?k_law_text ?a_law_read ?l_law_read ?co_law_read ?k_law_read ?a_law_changed ?l_law_changed ?co_law_changed ?k_law_changed ?a_law_text_changed ?l_law_text_changed ?co_law_text_changed ?k_law_text_changed ?a_law_told ?l_law_told ?co_law_told ?k_law_told ?a_law_both_right ?l_law_both_right ?co_law_both_right ?k_law_both_right ?a_law ?l_law ?co_law ?k_law ?v_LETTERS ?v_DIGITS ?v_LONGEST_NAME ?v_LONGEST_WORD ?v_SHORTEST_PATH ?z_len ?z_range ?z_abs ?z_max ?z_min ?z_divmod ?z_isinstance ?z_str ?z_int ?z_bool ?z_tuple ?z_list ?z_set ?z_dict ?z_all ?z_any ?z_repr ?z_sorted ?z_enumerate ?z_zip ?e_InvalidEvent ?S_InvalidEvent ?e_InvalidText ?S_InvalidText ?v_ES ?l_ES ?q_ES ?lo_ES ?a_ES ?cg ?ct ?cl_C ?tP_C ?cl_T ?tP_T ?e_RelinkTreeError ?cl_R ?tP_R ?e_InvalidLine ?cl_N ?tP_N ?bP_C ?s_CC ?s_TC ?bP_T ?s_TT ?ne_CR ?s_CR ?ne_TR ?s_TR ?ne_TN ?s_TN ?f_Cvalue ?f_Tvalue
    (case a_is_integer_from => k_is)
    (case l_is_integer_from => k_is)
    (case co_is_integer_from => k_is)
    (case k_is_integer_from => k_is)
    (case a_is_index => k_is)
    (case l_is_index => k_is)
    (case co_is_index => k_is)
    (case k_is_index => k_is)
    (case a_is_text_of => k_is)
    (case l_is_text_of => k_is)
    (case co_is_text_of => k_is)
    (case k_is_text_of => k_is)
    (case a_is_host_name => k_is)
    (case l_is_host_name => k_is)
    (case co_is_host_name => k_is)
    (case k_is_host_name => k_is)
    (case a_is_word => k_is)
    (case l_is_word => k_is)
    (case co_is_word => k_is)
    (case k_is_word => k_is)
    (case a_is_relink_path => k_is)
    (case l_is_relink_path => k_is)
    (case co_is_relink_path => k_is)
    (case k_is_relink_path => k_is)
    (case a_is_cut_of => k_is)
    (case l_is_cut_of => k_is)
    (case co_is_cut_of => k_is)
    (case k_is_cut_of => k_is)
    (case a_is_relink => k_is)
    (case l_is_relink => k_is)
    (case co_is_relink => k_is)
    (case k_is_relink => k_is)
    (case a_parse_index => k_is)
    (case l_parse_index => k_is)
    (case co_parse_index => k_is)
    (case k_parse_index => k_is)
    (case a_relink_text => k_is)
    (case l_relink_text => k_is)
    (case co_relink_text => k_is)
    (case k_relink_text => k_is)
    (case a_relink_from => k_is)
    (case l_relink_from => k_is)
    (case co_relink_from => k_is)
    (case k_relink_from => k_is)
    (case a_has_event_form => k_is)
    (case l_has_event_form => k_is)
    (case co_has_event_form => k_is)
    (case k_has_event_form => k_is)
    (case a_is_event => k_is)
    (case l_is_event => k_is)
    (case co_is_event => k_is)
    (case k_is_event => k_is)
    (case a_event_text => k_is)
    (case l_event_text => k_is)
    (case co_event_text => k_is)
    (case k_event_text => k_is)
    (case a_event_from => k_is)
    (case l_event_from => k_is)
    (case co_event_from => k_is)
    (case k_event_from => k_is)
    (case a_parse_event => k_is)
    (case l_parse_event => k_is)
    (case co_parse_event => k_is)
    (case k_parse_event => k_is)
    (case a_law_rng => k_is)
    (case l_law_rng => k_is)
    (case co_law_rng => k_is)
    (case k_law_rng => k_is)
    (case a_law_draw => k_is)
    (case l_law_draw => k_is)
    (case co_law_draw => k_is)
    (case k_law_draw => k_is)
    (case a_law_names => k_is)
    (case l_law_names => k_is)
    (case co_law_names => k_is)
    (case k_law_names => k_is)
    (case a_law_shuffled => k_is)
    (case l_law_shuffled => k_is)
    (case co_law_shuffled => k_is)
    (case k_law_shuffled => k_is)
    (case a_law_odd => k_is)
    (case l_law_odd => k_is)
    (case co_law_odd => k_is)
    (case k_law_odd => k_is)
    (case a_law_is_name => k_is)
    (case l_law_is_name => k_is)
    (case co_law_is_name => k_is)
    (case k_law_is_name => k_is)
    (case a_law_is_word => k_is)
    (case l_law_is_word => k_is)
    (case co_law_is_word => k_is)
    (case k_law_is_word => k_is)
    (case a_law_number => k_is)
    (case l_law_number => k_is)
    (case co_law_number => k_is)
    (case k_law_number => k_is)
    (case a_law_drawn_word => k_is)
    (case l_law_drawn_word => k_is)
    (case co_law_drawn_word => k_is)
    (case k_law_drawn_word => k_is)
    (case a_law_drawn => k_is)
    (case l_law_drawn => k_is)
    (case co_law_drawn => k_is)
    (case k_law_drawn => k_is)
    (case a_law_is_relink => k_is)
    (case l_law_is_relink => k_is)
    (case co_law_is_relink => k_is)
    (case k_law_is_relink => k_is)
    (case a_law_is_event => k_is)
    (case l_law_is_event => k_is)
    (case co_law_is_event => k_is)
    (case k_law_is_event => k_is)
    (case a_law_text => k_is)
    (case l_law_text => k_is)
    (case co_law_text => k_is)
    (case k_law_text => k_is)
    (case a_law_read => k_is)
    (case l_law_read => k_is)
    (case co_law_read => k_is)
    (case k_law_read => k_is)
    (case a_law_changed => k_is)
    (case l_law_changed => k_is)
    (case co_law_changed => k_is)
    (case k_law_changed => k_is)
    (case a_law_text_changed => k_is)
    (case l_law_text_changed => k_is)
    (case co_law_text_changed => k_is)
    (case k_law_text_changed => k_is)
    (case a_law_told => k_is)
    (case l_law_told => k_is)
    (case co_law_told => k_is)
    (case k_law_told => k_is)
    (case a_law_both_right => k_is)
    (case l_law_both_right => k_is)
    (case co_law_both_right => k_is)
    (case k_law_both_right => k_is)
    (case a_law => k_is)
    (case l_law => k_is)
    (case co_law => k_is)
    (case k_law => k_is)
    (case v_LETTERS => k_is)
    (case v_DIGITS => k_is)
    (case v_LONGEST_NAME => k_is)
    (case v_LONGEST_WORD => k_is)
    (case v_SHORTEST_PATH => k_is)
    (case z_len => k_is)
    (case z_range => k_is)
    (case z_abs => k_is)
    (case z_max => k_is)
    (case z_min => k_is)
    (case z_divmod => k_is)
    (case z_isinstance => k_is)
    (case z_str => k_is)
    (case z_int => k_is)
    (case z_bool => k_is)
    (case z_tuple => k_is)
    (case z_list => k_is)
    (case z_set => k_is)
    (case z_dict => k_is)
    (case z_all => k_is)
    (case z_any => k_is)
    (case z_repr => k_is)
    (case z_sorted => k_is)
    (case z_enumerate => k_is)
    (case z_zip => k_is)
    (case e_InvalidEvent => k_is)
    (case S_InvalidEvent =>
      refine' My.raw_InvalidEvent ?ii ?ov ?sa ?ga ?gg ?ca ?ex ?ob ?hd ?kp ?ty ?ini ?tf ?li ?ci ?ki ?n0
      (case ii => kx_is)
      (case ov => kx_is)
      (case sa => k_is)
      (case ga => k_is)
      (case gg => k_is)
      (case ca => k_is)
      (case ex => k_is)
      (case ob => k_is)
      (case hd => k_is)
      (case kp => k_is)
      (case ty => k_is)
      (case ini => k_is)
      (case tf => k_is)
      (case li => k_is)
      (case ci => k_is)
      (case ki => k_is)
      (case n0 => k_is))
    (case e_InvalidText => k_is)
    (case S_InvalidText =>
      refine' My.raw_InvalidText ?ii ?ov ?sa ?ga ?gg ?ca ?ex ?ob ?hd ?kp ?ty ?ini ?tf ?li ?ci ?ki ?n0
      (case ii => kx_is)
      (case ov => kx_is)
      (case sa => k_is)
      (case ga => k_is)
      (case gg => k_is)
      (case ca => k_is)
      (case ex => k_is)
      (case ob => k_is)
      (case hd => k_is)
      (case kp => k_is)
      (case ty => k_is)
      (case ini => k_is)
      (case tf => k_is)
      (case li => k_is)
      (case ci => k_is)
      (case ki => k_is)
      (case n0 => k_is))
    (case v_ES => k_is)
    (case l_ES => k_is)
    (case q_ES => exact ⟨⟨_, _, rfl, rfl⟩, ⟨_, _, rfl, rfl⟩, ⟨_, _, rfl, rfl⟩, ⟨_, _, rfl, rfl⟩, ⟨_, _, rfl, rfl⟩, trivial⟩)
    (case lo_ES => decide)
    (case a_ES => exact ⟨_, _, _, _, _, _, _, _, _, _, _, _, _, _, _, rfl⟩)
    (case cg => k_is)
    (case ct => k_is)
    (case cl_C => k_is)
    (case tP_C => k_is)
    (case cl_T => k_is)
    (case tP_T => k_is)
    (case e_RelinkTreeError => k_is)
    (case cl_R => k_is)
    (case tP_R => k_is)
    (case e_InvalidLine => k_is)
    (case cl_N => k_is)
    (case tP_N => k_is)
    (case bP_C => k_is)
    (case s_CC => k_is)
    (case s_TC => k_is)
    (case bP_T => k_is)
    (case s_TT => k_is)
    (case ne_CR => decide)
    (case s_CR => k_is)
    (case ne_TR => decide)
    (case s_TR => k_is)
    (case ne_TN => decide)
    (case s_TN => k_is)
    (case f_Cvalue => k_is)
    (case f_Tvalue => k_is)

