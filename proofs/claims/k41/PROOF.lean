import PyProof.Rows.All
import Wide.All
import OpenK.AllK
import Wide.FinOn
import HandS.ForMost
import HandS.IsInst
import HandS.Walk
import KE.KExcPX
import KE.KExcInit
import KE.KExcIs
import HandS.ExcInit
import PyProof.ReprLen
import HandS.ForExc
import HandS.ExcField
import HandS.TryMany
import HandS.CallSlots
import HandS.Strs
import HandS.TupAny
import PyProof.ReprHeadsEmpty
import HandS.WideBits
import HandS.DeepEq
import HandS.RaiseMore
import HandS.SetFor
import HandS.FStr
import HandS.DictComp
import HandS.SortRule
import HandS.OwnEq
import HandS.ExcOwn
import HandS.Defaults
import HandS.Style
import HandS.CallLocal
import HandS.WrittenGet
import PyProof.EqKinds
import PyProof.FactsAll.dict_1
import PyProof.FactsAll.subtypes_4
import PyProof.FactsAll.subtypes_3
import PyProof.FactsAll.str_1
import HandS.Star
import HandS.MakeKwOnly
import PyProof.ReprText
import HandS.DictTup
import PyProof.DictMoreH
import HandS.Conv
import HandS.Iter
import KE.KDictWalk
import PyProof.NeKinds
import HandS.Deep
import HandS.Dict
import HandS.TupLen
import KE.KExcLine
import PySem.Challenge.RW_relinktree_k41_whole_free_hosts_flood
set_option Elab.async false
set_option linter.all false
set_option maxRecDepth 100000
set_option maxHeartbeats 4000000
/-! Defs whose promise needs to know that no repr is under way: the layer's def, call and end once more with that premise. -/
namespace Gy
open PySem PySem.Spec PyProof.Rows L2

/-- repr of data at an address -/
theorem repr_dat {X : Cx} (hg : X.A.guards = some []) (hu : X.A.units + 70 < cLine) :
    CallR X (.builtin "repr") (fun xs H Q => ∃ a d, xs = [.ref a] ∧ Dp X.K H (.ref a) d ∧ d.showable = true ∧ d.hasDict = false ∧ d.depth ≤ 60 ∧
      d.shown.length ≤ sizeLine ∧ Q (.str d.shown) H) := by
  intro pins s σ H xs us Q I r h
  obtain ⟨a, d, rfl, hd, h1, h2, h3, h4, q⟩ := h
  obtain ⟨u, rfl, ru⟩ := vals1 r
  obtain ⟨as, rd⟩ := Dp.reads I d _ u hd ru
  cases ru
  refine repr_of_reads' rd h1 (fun z => ?_) hg (by omega) (fun _ _ e => e) (fun h' u tk hk => ?_) h4
  · rw [h2] at z
    cases z
  · exact ⟨.str _, H, I.kept hk, ⟨u, rfl⟩, q⟩

/-- a def's promise, where no repr is under way -/
structure FnG (P : Program) (w : World) (K : PySem.W.Frag) (mg : Str → Option Value) (base : Heap)
    (CX : CXT) (k : Nat) (f : Addr) (fd : FuncData) (ps : List Str) (sp : Sp) : Prop where
  ln : ∀ {vs H Q E}, sp vs H Q E → vs.length = ps.length
  go : ∀ {A outer s H args us vs Q E}, A.guards = some [] → Room k A → Env0 P w K mg base A outer s H →
    BindsTo s fd args (ps.zip us) → Vals vs us → sp vs H Q E → codeAny (model P w) A (.call (.ref f) args) (CR CX outer P w H s Q E) s

section
variable {P : Program} {w : World} {K : PySem.W.Frag} {mg : Str → Option Value} {base : Heap} {CX : CXT} {k : Nat} {f : Addr} {fd : FuncData} {ps N : List Str} {sp : Sp}
theorem FnG.up {j : Nat} (F : FnG P w K mg base CX j f fd ps sp) (h : j ≤ k) : FnG P w K mg base CX k f fd ps sp :=
  ⟨F.ln, fun g hr => F.go g (hr.mono h)⟩
theorem FnG.of (F : FnOk P w K mg base CX k f fd ps sp) : FnG P w K mg base CX k f fd ps sp :=
  ⟨fun h => F.len _ _ _ _ h, fun _ hr e b v h => F.run _ _ _ _ _ _ _ _ _ hr e b v h⟩

theorem fun_g {x qual : Str} {st : Stmt} (F : Fun K x qual st f fd) (S : FnScope N ps (defScope st)) (ln : ∀ {vs H Q E}, sp vs H Q E → vs.length = ps.length)
    (bd : ∀ (cdv : Value) (A : Around) (outer : List Env) (s : Shared) (H : Hp) (vs : List V) (Q : VK) (E : XK), A.guards = some [] →
      Room k (A.deeper (envOfC qual (defScope st) s.heap.objs.size f cdv)) → sp vs H Q E →
      ∃ t, PSs (cxOf CX P w K mg base N qual (defScope st) f cdv A outer s H E) (defBody st) t ∧
        t { nx := fun _ H' => Q .non H', rt := Q } (start N vs) H) :
    FnG P w K mg base CX (k + 1) f fd ps sp := by
  obtain ⟨oc, od, kV, doc, pm, an, cdv, ct, osl, rfl, lk, hcd⟩ := F.ex
  refine ⟨ln, ?_⟩
  intro A outer s H args us vs Q E g hr e0 hb rl hsp
  have stay : ∀ b o, base.get? b = some o → s.heap.get? b = some o := fun b o e => (e0.bs b o e).1
  have kin := e0.mod.kin.keeps stay
  have nol := e0.mod.nolimit.keeps stay
  refine codeAny_call_function hr.depth (kin _ _ lk) rfl S.co S.gen rfl (PySem.W.codeRec_of kin hcd) (hb _ _ _ _ ?_)
  refine wpAny_newFunctionEnv_cells S.kind ?_ ?_
  · rintro ⟨n, v⟩ hy
    refine (S.par n (List.of_mem_zip hy).1).imp id fun q => ⟨q, ?_⟩
    exact PySem.W.cellsFrom_some _ _ _ (.inl q)
  · rintro env rfl s1 x
    refine ⟨nol.keeps x.toInCall.keep, codeAny_func ?_⟩
    obtain ⟨t, ht, hq⟩ := bd cdv A outer s H vs Q E g (hr.deeper _) hsp
    have I := inv_start (CX := CX) (E := E) (outer := outer) S hr.hd e0 (ln hsp) rl x
    refine wpAny_mono (ht.run [] s1 (start N vs) H _ I hq) ?_ (fun _ _ z => z)
    rintro (_ | _ | _ | u) s' z
    all_goals first
      | (obtain ⟨σ', H', J, q⟩ := z
         exact ⟨V.non, H', J.os, J.bare, J.base, J.hok, rfl, q⟩)
      | (obtain ⟨_, _, _, q⟩ := z
         exact q.elim)
      | (obtain ⟨v, σ', H', J, rv, q⟩ := z
         exact ⟨v, H', J.os, J.bare, J.base, J.hok, rv, q⟩)
end
end Gy

namespace Gy
open PySem PySem.Spec PyProof.Rows L2

/-- the readings of the two calls below -/
def tG (sp : Sp) (E : XK) (t : TA) : TE := fun σ H Q => t σ H fun vs H1 => sp vs H1 Q E
def tKw0 (sp : Sp) (gV : List V → List V → List V) (E : XK) (tk : TA) : TE := fun σ H Q => tk σ H fun zs H1 => sp (gV [] zs) H1 Q E
section
variable {X : Cx} {CX : CXT} {k : Nat} {f : Addr} {fd : FuncData} {ps ks : List Str} {sp : Sp} {E : XK} {x : Str} {p pos : Pos} {e : Expr} {es : List Expr} {kws : List Keyword} {t tk : TA}
variable {g : List Value → List Value → List Value} {gV : List V → List V → List V}
/-- f(e, ..) of a def that wants to know of repr -/
theorem pe_callG (F : FnG X.prog X.w X.K X.mg X.base CX k f fd ps sp) (gd : X.A.guards = some []) (hr : Room k X.A) (hg : Gl X x)
    (hm : X.mg x = some (.ref f)) (hk : PySem.W.keepIn X.K (.ref f) = true) (hb : Binds X.K fd ps []) (hx : Passes CX X E) (ha : PA X (e :: es) t)
    (hdb : (x == ("__debug__" : Str)) = false := by decide) (he : starEach (e :: es) X.env = (false, eval e X.env) :: starEach es X.env := by rfl)
    (hpl : (backTo pos (starEach es X.env)).any (·.1) = false := by rfl) :
    PE X (.Call (.Name x p) (e :: es) [] pos) (tG sp E t) := by
  constructor
  intro pins s σ H Q I h
  refine wpAny_Call_Name_kw (ld_glob I hg hm ?_ hdb)
  refine PySem.W.callWith_K (h₀ := X.base) I.ok.mod.kin hk (thn (ha.run pos pins s σ H _ I h) ?_) he hpl
  rintro us s1 ⟨vs, H1, I1, r, q⟩
  refine ⟨I1.kIn, wpAny_call (codeAny_mono (F.go (args := ⟨us, []⟩) gd hr I1.env0 ?_ r q) ?_)⟩
  · have b := hb s1 us I1.kIn (by rw [List.append_nil, ← r.length]; exact F.ln q)
    rwa [List.append_nil] at b
  · rintro (er | (_ | _ | _ | u)) s' z
    · exact hx pins σ H1 s1 er s' I1 z
    · exact z.elim
    · exact z.elim
    · exact z.elim
    · exact I1.after z
/-- f(k = v, ..), nothing by position -/
theorem pe_kw0 (F : FnOk X.prog X.w X.K X.mg X.base CX k f fd ps sp) (hr : Room k X.A) (hg : Gl X x) (hm : X.mg x = some (.ref f))
    (hk : PySem.W.keepIn X.K (.ref f) = true) (hb : KBinds X.K fd ps ks g gV) (hx : Passes CX X E) (hkw : PK X kws tk)
    (hall : (backToKw pos (keywordEach kws X.env)).all (·.1.isSome) = true := by rfl) (hks : (backToKw pos (keywordEach kws X.env)).filterMap (·.1) = ks := by rfl)
    (hdb : (x == ("__debug__" : Str)) = false := by decide)
    (hpl : ((backTo pos (starEach [] X.env)).any (·.1) || (backToKw pos (keywordEach kws X.env)).any (·.1.isNone)) = false := by rfl) :
    PE X (.Call (.Name x p) [] kws pos) (tKw0 sp gV E tk) := by
  constructor
  intro pins s σ H Q I h
  refine wpAny_Call_Name_kw (ld_glob I hg hm ?_ hdb)
  refine PySem.W.callWith_KW0 (h₀ := X.base) I.ok.mod.kin hk hall (thn (hkw.run pos pins s σ H _ I h) ?_) hpl
  rintro ws s2 ⟨zs, H2, I2, rz, q2⟩
  rw [hks]
  exact ⟨I2.kIn, run_fnk (us := []) F hr hb hx I2 .nil rz q2⟩
end

/-- the law's call, its def a FnG -/
theorem end_g {P : Program} {w : World} {K : PySem.W.Frag} {mg mb : Str → Option Value} {CX : CXT} {k : Nat} {fa a : Addr} {fd : FuncData} {x : Str} {sp : Sp}
    {s : Shared} {vs : List Value} {ns : List Int} (kin : K.In s.heap) (hns : s.heap.Ns mainGlobals mg) (hb : s.heap.Ns builtinsNs mb)
    (hbb : ∀ x : Str, x ≠ "__name__" → mb x = bootBuiltins x) (nol : s.heap.NoLimit) (hg : s.gens = #[])
    (ha : s.heap.get? a = some { cls := .type "list", data := .seq vs.toArray }) (hi : IntsAre vs ns) (hl : ns.length ≤ sizeLine) (hr : Room k callerA)
    (F : ∀ base : Heap, K.In base → base.Ns mainGlobals mg → FnG P w K mg base CX k fa fd [x] sp)
    (bnd : ∀ (s : Shared) (u : Value), BindsTo s fd ⟨[u], []⟩ [(x, u)])
    (hsp : ∀ H : Hp, Only H → SqL K H a (ns.map V.int) → sp [.ref a] H (fun v _ => v = .bl true) fun _ _ _ => False)
    (hCX : ∀ H e s', CX [] H s (fun _ _ _ => False) e s' → False) :
    codeAny (model P w) callerA (.call (.ref fa) ⟨[.ref a], []⟩)
      (fun r s' => r = .ok (.ret (.bool true)) ∧ OldK s.heap s'.heap ∧ s'.os = s.os ∧ AllBare s'.gens) s := by
  have main : ∀ H : Hp, Only H → SqL K H a (ns.map V.int) → HOk P w H s.heap → (∀ b, H b ≠ none → b = a) → (H a ≠ none → K.lookup a = none) →
      codeAny (model P w) callerA (.call (.ref fa) ⟨[.ref a], []⟩)
        (fun r s' => r = .ok (.ret (.bool true)) ∧ OldK s.heap s'.heap ∧ s'.os = s.os ∧ AllBare s'.gens) s := by
    intro H only seq hok alone notK
    have noD : ∀ {b o es ep}, s.heap.get? b = some o → o.data = .dict es ep → H b = none := by
      intro b o es ep e d
      cases q : H b with
      | none => rfl
      | some u =>
        obtain rfl := alone b (by rw [q]; exact fun z => nomatch z)
        rw [ha] at e
        cases e
        exact nomatch d
    have nsB : ∀ {b m}, s.heap.Ns b m → (hidT s.heap H).Ns b m := by
      rintro b m ⟨o, es, ep, e, d, r⟩
      exact ⟨o, es, ep, hidT_get e (noD e d), d, r⟩
    have kB : K.In (hidT s.heap H) := by
      intro b o e
      refine hidT_get (kin b o e) ?_
      cases q : H b with
      | none => rfl
      | some u =>
        obtain rfl := alone b (by rw [q]; exact fun z => nomatch z)
        rw [notK (by rw [q]; exact fun z => nomatch z)] at e
        cases e
    obtain ⟨mc, l1, l2⟩ := nol
    have e0 : Env0 P w K mg (hidT s.heap H) callerA [] s H := by
      refine ⟨rfl, ⟨kB, nsB hns, ⟨mb, nsB hb, hbb⟩, ⟨mc, nsB l1, l2⟩⟩, fun b o e => of_hidT e, Nat.le_of_eq (hidT_size _ _), trivial, ?_, hok, .of_eq hg⟩
      intro b z
      exact nomatch (show b ∈ ([] : List Addr) from z)
    have run := (F _ kB (nsB hns)).go (A := callerA) (args := ⟨[.ref a], []⟩) (us := [.ref a]) (vs := [V.ref a]) rfl hr e0 (bnd s (.ref a)) (.cons rfl .nil) (hsp H only seq)
    refine codeAny_mono run ?_
    rintro (er | (_ | _ | _ | u)) s' z
    · exact (hCX H er s' z).elim
    · exact z.elim
    · exact z.elim
    · exact z.elim
    · obtain ⟨v, H', os, bare, un, hok', rv, q⟩ := z
      cases (show v = .bl true from q)
      cases (show u = Value.bool true from rv)
      refine ⟨rfl, OldK.of_keep fun b o e => ?_, os, bare⟩
      rcases only b with n | ⟨ob, xs, y⟩
      · exact un.keep b o e n (fun z => nomatch (show b ∈ ([] : List Addr) from z)) (fun z => nomatch z)
      · obtain ⟨e1, _⟩ := hok b _ y
        obtain ⟨e2, _⟩ := hok' b _ (un.frzs b ob _ y)
        rw [e] at e1
        cases e1
        exact e2
  have rv := vals_ints hi
  cases hk : K.lookup a with
  | some o =>
    have e := kin a o hk
    rw [ha] at e
    cases e
    refine main (fun _ => none) (fun _ => .inl rfl) (.inr ⟨_, vs.toArray, _, hk, rfl, rfl, rfl, ?_, rv⟩) (fun b u z => nomatch z) (fun b z => absurd rfl z) (fun z => absurd rfl z)
    rw [List.size_toArray, hi.length]
    exact hl
  | none =>
    let ob : Obj := { cls := .type "list", data := .seq vs.toArray }
    refine main (fun b => if b = a then some (.frz ob (.lst (ns.map V.int))) else none) (fun b => ?_) (.inl (.inr ⟨ob, if_pos rfl⟩)) (fun b u z => ?_) (fun b z => ?_) (fun _ => hk)
    · by_cases q : b = a
      · exact .inr ⟨_, _, if_pos q⟩
      · exact .inl (if_neg q)
    · by_cases q : b = a
      · have y := (if_pos q).symm.trans z
        cases y
        subst q
        exact ⟨ha, by rw [List.length_map]; exact hl, vs, _, rv, ha⟩
      · have y := (if_neg q).symm.trans z
        cases y
    · by_cases q : b = a
      · exact q
      · exact absurd (if_neg q) z

/-- what k_head leaves, from a law that is a FnG -/
theorem walk_g {l : PySem.W.OpenLaw} {n k : Nat} {q : Program} {loose : List Str} {XP : (Str → Option Value) → Heap → Prop} {YP : World → Heap → Prop} {d : DefRec}
    {K : Params → PySem.W.Frag} {sp : PySem.W.Frag → Sp} {x : Str} (hn : l.most = some n) (hn2 : n ≤ sizeLine) (hdf : d.params.defaults = []) (hr : Room k callerA)
    (hY : ∀ (w : World) (h : Heap), YP w h → (K w.params).In h)
    (F : ∀ (w : World) (mg : Str → Option Value) (fa : Addr) (h : Heap), (K w.params).In h → h.Ns mainGlobals mg → mg d.name = some (.ref fa) →
      ∃ fd : FuncData, (∀ (s : Shared) (u : Value), BindsTo s fd ⟨[u], []⟩ [(x, u)]) ∧
        ∀ base : Heap, (K w.params).In base → base.Ns mainGlobals mg → FnG l.prog w (K w.params) mg base CX0 k fa fd [x] (sp (K w.params)))
    (hsp : ∀ (K : PySem.W.Frag) (H : Hp) (a : Addr) (ns : List Int), ns.length ≤ n → SqL K H a (ns.map V.int) → sp K [.ref a] H (fun v _ => v = .bl true) fun _ _ _ => False) :
    PySem.W.WalkO q loose XP YP l.row.toRowW d [] (fun f vs => PySem.call f vs) := by
  refine Att.attach_call hn hdf ?_
  intro w s₀ s₁ mg mb fa o pm cd doc a vs ns G Y ho hd hcd hmg hobj hints hlen hg
  have kin := hY w _ Y
  obtain ⟨fd, hb, hF⟩ := F w mg fa _ kin G.T.g hmg
  exact end_g kin G.T.g G.T.b G.T.builtins G.T.nolimit hg hobj hints (Nat.le_trans hlen hn2) hr hF hb (fun H _ hS => hsp _ H a ns hlen hS) (fun _ _ _ z => z)
end Gy

/-! An own exception class called with keywords: BaseException.__new__ takes them and forgets them, the own __init__ gets them. -/
namespace PySem
namespace Xg
open Builtin Builtin.ObjectAttr
section
variable {M : Model} {A : Around} {E : Value → Shared → Prop} {h : Heap} {g : Array GenState} {d : Drawn} {t : Nat} {os : OsState}
variable {nm q : Str} {C N : Addr} {bs bm bmB : List Value} {hdct : Bool} {sn : List Str} {sub : List Value} {ab : Bool} {col : Option Bool} {dd : Option Addr} {k0 k1 k2 k3 k5 : Option Value} {B newId initId : String}
theorem kw_check (F : ExcBaseFacts B newId initId bmB) (hT : ∀ X : String, bm.contains (.type X) = bmB.contains (.type X)) {us : List Value} {kw : List (Str × Value)} {Q : Unit → Shared → Prop}
    (cl : h.get? C = some (excClassObj nm q C N bs bm hdct sn sub ab col dd k0 k1 k2 k3 k5 newId)) (z : Q () ⟨h, g, d, t, os⟩) :
    wpAny M A (checkBuiltinCall newId ⟨.ref C :: us, kw⟩) Q E ⟨h, g, d, t, os⟩ := by
  have has : (Value.ref C :: bm).contains (.type B) = true := by
    rw [List.contains_cons, hT, F.hasB, Bool.or_true]
  have star := F.noStar
  simp only [checkBuiltinCall, F.newKind, F.newSplit, F.newRow]
  repeat (first
    | refine wpAny_loadPart_at cl ?_
    | (refine wpAny_isSubtype_exc cl ?_; rw [has])
    | refine wpAny_staticBase_exc cl ?_
    | refine wpAny_madeBy_exc cl ?_
    | simp only [bne_self_eq_false, Bool.false_eq_true, if_false]
    | wp_step)
  exact z
end
section
variable {prog : Program} {w : World} {A : Around} {E : Value → Shared → Prop} {R : Result → Shared → Prop} {h : Heap} {g : Array GenState} {d : Drawn} {t : Nat} {os : OsState}
variable {nm q : Str} {C N : Addr} {bs bm bmB : List Value} {hdct : Bool} {sn : List Str} {sub : List Value} {ab : Bool} {col : Option Bool} {dd : Option Addr} {k0 k1 k2 k3 k5 : Option Value} {B newId initId : String}
theorem kw_new (F : ExcBaseFacts B newId initId bmB) (hT : ∀ X : String, bm.contains (.type X) = bmB.contains (.type X)) {us : List Value} {kw : List (Str × Value)}
    (cl : h.get? C = some (excClassObj nm q C N bs bm hdct sn sub ab col dd k0 k1 k2 k3 k5 newId))
    (z : R (.ok (.ret (.ref (h.objs.size + 1)))) ⟨(h.push (W.kdv_tup us)).push (PX.excO C h.objs.size), g, d, t, os⟩) (len : us.length ≤ sizeLine) :
    codeAny (model prog w) A (.builtin newId ⟨.ref C :: us, kw⟩) R ⟨h, g, d, t, os⟩ := by
  have ends := F.ends
  have hB : (Value.ref C :: bm).contains (.type B) = true := by
    rw [List.contains_cons, hT, F.hasB, Bool.or_true]
  have hA : (Value.ref C :: bm).contains (.type "AttributeError") = false := by
    rw [List.contains_cons, hT, F.noAttr]
    rfl
  have hN : (Value.ref C :: bm).contains (.type "NameError") = false := by
    rw [List.contains_cons, hT, F.noName]
    rfl
  refine codeAny_builtinAt F.entry ?_
  unfold Builtin.«BaseException.__new__»
  refine wpAt_bind ?_
  show wpAt _ _ _ (stack >>= _) _ _ _
  refine wpAt_bind (wpAt_stack fun p below => wpAt_of_wpAny ?_)
  wp_walk
  refine wpAt_of_wpAny ?_
  rw [F.owner]
  repeat (first
    | with_reducible refine wpAny_madeHere_exc F.canon cl ?_
    | with_reducible refine wpAny_loadPart_at cl ?_
    | (with_reducible refine wpAny_isSubtype_exc cl ?_; first | rw [hB] | rw [hA] | rw [hN])
    | wp_step)
  show R _ _
  rw [Heap.size_push]
  exact z
theorem kw_type (F : ExcBaseFacts B newId initId bmB) (hT : ∀ X : String, bm.contains (.type X) = bmB.contains (.type X)) {us : List Value} {kw : List (Str × Value)} {fI : Addr} {Q : Fin → Shared → Prop}
    (cl : h.get? C = some (excClassObj nm q C N bs bm hdct sn sub ab col dd k0 k1 k2 k3 k5 newId))
    (hi : W.Looks (model prog w) h (typeLookup (.ref C) "__init__") (some (.ref fI))) (hb : ∀ self, W.Looks (model prog w) h (bindSpecial (.ref fI) self) (.ref fI, [self]))
    (len : us.length ≤ sizeLine)
    (z : codeAny (model prog w) A (.call (.ref fI) ⟨.ref (h.objs.size + 1) :: us, kw⟩)
      (fun r s' => match r with | .ok (.ret v) => v = .none ∧ Q (.done (.ret (.ref (h.objs.size + 1)))) s' | .ok _ => False | .error e => E e s')
      ⟨(h.push (W.kdv_tup us)).push (PX.excO C h.objs.size), g, d, t, os⟩) :
    wpAny (model prog w) A (Builtin.«type.__call__» ⟨.ref C :: us, kw⟩) Q E ⟨h, g, d, t, os⟩ := by
  repeat (first
    | with_reducible refine wpAny_loadPart_at cl ?_
    | with_reducible refine wpAny_madeBy_exc cl ?_
    | wp_step)
  refine codeAny_call_builtin_code (Code.quiet_builtin _ F.quiet) (kw_check F hT cl ?_)
  refine kw_new F hT cl ?_ len
  show wpAny _ _ _ _ _ _
  have keep : ∀ b o, h.get? b = some o → ((h.push (W.kdv_tup us)).push (PX.excO C h.objs.size)).get? b = some o := fun b o e =>
    Heap.get?_push_of_some _ (Heap.get?_push_of_some _ e)
  have cl1 := keep _ _ cl
  have new : ((h.push (W.kdv_tup us)).push (PX.excO C h.objs.size)).get? (h.objs.size + 1) = some (PX.excO C h.objs.size) := by heap_get
  have self : (Value.ref C :: bm).contains (.ref C) = true := by simp
  have i1 := hi.keeps keep
  have b1 := (hb (.ref (h.objs.size + 1))).keeps keep
  unfold isInstance
  repeat (first
    | with_reducible refine wpAny_loadPart_at new ?_
    | (with_reducible refine wpAny_isSubtype_exc cl1 ?_; rw [self])
    | wp_step)
  show wpAny _ _ (typeLookup (.ref C) _) _ _ _
  refine i1.at ?_
  refine wpAny_holding (wpAny_bind (b1.at ?_))
  refine wpAny_bind (wpAny_call (codeAny_mono z fun r s' y => ?_))
  rcases r with e | (v | _ | _ | _) <;> first | exact y | exact y.elim | skip
  obtain ⟨rfl, y⟩ := y
  first
    | exact wpAny_pure (wpAny_pure y)
    | (wp_walk; exact y)
theorem kw_call (F : ExcBaseFacts B newId initId bmB) (hT : ∀ X : String, bm.contains (.type X) = bmB.contains (.type X)) {us : List Value} {kw : List (Str × Value)} {fI : Addr}
    (cl : h.get? C = some (excClassObj nm q C N bs bm hdct sn sub ab col dd k0 k1 k2 k3 k5 newId))
    (hi : W.Looks (model prog w) h (typeLookup (.ref C) "__init__") (some (.ref fI))) (hb : ∀ self, W.Looks (model prog w) h (bindSpecial (.ref fI) self) (.ref fI, [self]))
    (len : us.length ≤ sizeLine)
    (z : codeAny (model prog w) (A.under (.builtin "type.__call__" ⟨.ref C :: us, kw⟩)) (.call (.ref fI) ⟨.ref (h.objs.size + 1) :: us, kw⟩) (W.InitBack (h.objs.size + 1) R)
      ⟨(h.push (W.kdv_tup us)).push (PX.excO C h.objs.size), g, d, t, os⟩) :
    codeAny (model prog w) A (.call (.ref C) ⟨us, kw⟩) R ⟨h, g, d, t, os⟩ := by
  have f1 := tc_lookup
  have f2 := tc_bind (.ref C)
  have ty : (⟨h, g, d, t, os⟩ : Shared).TypeIs (.ref C) "type" := ⟨_, cl, rfl⟩
  refine codeAny_of_tree ?_
  show wpAny _ _ (callAny (.ref C) _) _ _ _
  repeat (any_goals (first | assumption | with_reducible refine wpAny_loadPart_at cl ?_ | wp_step))
  refine ⟨rfl, ?_⟩
  refine codeAny_call_builtin_at (Code.quiet_builtin _ (by decide +kernel)) entry_typeCall (wpAny_check_type_call_sub cl (kw_type F hT cl hi hb len ?_))
  refine codeAny_mono z fun r s' y => ?_
  rcases r with e | (v | _ | _ | _) <;> exact y
end
end Xg
end PySem

/-! Own exception classes over any built-in base, made as values: by position, by name; their fields stored and read; isinstance. -/
namespace PySem
namespace Xg
open PySem.W PySem.Calls PyProof.Rows Builtin Builtin.ObjectAttr
section
variable {prog : Program} {w : World} {A : Around} {R : Result → Shared → Prop} {hp : Heap} {g : Array GenState} {d : Drawn} {t : Nat} {os : OsState} {K : Frag} {B : String} {bmB : List Value}
/-- the first field: the dict is made -/
theorem osa_first (SF : StoreFacts B bmB "object.__setattr__" "object") {name : Str} {tk : Tok} {v : Value} {x C t1 : Addr} (kin : K.In hp)
    (at_ : hp.get? x = some (PX.excO C t1)) (ov : excOver K C bmB = true) (no : takerIn K C name = some none) (hh : hasDictIn K C = true)
    (z : ∀ h' tk' dx, (∀ b o, b ≠ x → hp.get? b = some o → h'.get? b = some o) → hp.objs.size ≤ dx → dx ≠ x →
      h'.get? x = some { PX.excO C t1 with dict := some dx } → h'.Ns1 dx (fun y => if y = name then some v else none) → R (.ok (.ret .none)) ⟨h', g, d, tk', os⟩) :
    codeAny (model prog w) A (.call (.builtin "object.__setattr__") ⟨[.ref x, .str name tk, v], []⟩) R ⟨hp, g, d, t, os⟩ := by
  obtain ⟨cd, hc, hd'⟩ := any_some hh
  have lt := Heap.lt_size at_
  refine osa_openX (od := none) (s := ⟨hp, g, d, t, os⟩) SF kin ⟨at_, rfl, rfl, trivial⟩ ov no fun b => ?_
  refine wpAny_bind (wpAny_pure (wpAny_bind (instanceDict_exc (s := ⟨hp, g, d, t, os⟩) (c2 := .none) at_ (looks_clsIn kin hc) hd' ?_)))
  show wpAny _ _ (storeInDict hp.objs.size (.str name tk) name v) _ _ _
  refine HandSPX.store_in_new ?_ fun h' tk' hn hs => ?_
  · exact ⟨_, #[], _, (Heap.get?_update_ne _ _ _ _ (Nat.ne_of_gt lt)).trans (Heap.get?_push_at rfl rfl), rfl, fun e he => absurd he (by simp), fun _ => rfl⟩
  · refine z h' tk' hp.objs.size (fun b o nb e => ?_) (Nat.le_refl _) (Nat.ne_of_gt lt) ?_ hn
    · rw [hs.2 b (Nat.ne_of_lt (Heap.lt_size e)), Heap.get?_update_ne _ _ _ _ nb]
      exact Heap.get?_push_of_some _ e
    · rw [hs.2 x (Nat.ne_of_lt lt)]
      exact Heap.get?_update_self _ (Heap.get?_push_of_some _ at_) rfl
/-- a further field -/
theorem osa_next (SF : StoreFacts B bmB "object.__setattr__" "object") {name : Str} {tk : Tok} {v : Value} {x C t1 dx : Addr} {m0 : Str → Option Value} {nl : List Str} (kin : K.In hp)
    (at_ : hp.get? x = some { PX.excO C t1 with dict := some dx }) (ns : hp.Ns1 dx m0) (wi : Within m0 nl) (few : nl.length ≤ 1000)
    (ov : excOver K C bmB = true) (no : takerIn K C name = some none) (hh : hasDictIn K C = true)
    (z : ∀ h' tk', (∀ b o, b ≠ dx → hp.get? b = some o → h'.get? b = some o) → h'.Ns1 dx (fun y => if y = name then some v else m0 y) → R (.ok (.ret .none)) ⟨h', g, d, tk', os⟩) :
    codeAny (model prog w) A (.call (.builtin "object.__setattr__") ⟨[.ref x, .str name tk, v], []⟩) R ⟨hp, g, d, t, os⟩ := by
  obtain ⟨cd, hc, hd'⟩ := any_some hh
  obtain ⟨oD, _, _, gD, _, _⟩ := ns.count wi
  refine osa_openX (od := some oD) (s := ⟨hp, g, d, t, os⟩) SF kin ⟨at_, rfl, rfl, gD⟩ ov no fun b => ?_
  refine wpAny_bind (wpAny_pure (wpAny_bind (wpAny_bind (wpAny_loadPart at_ (wpAny_bind ((looks_clsIn kin hc).here ?_))))))
  rw [hd']
  refine wpAny_pure (a := some dx) ?_
  exact OEX.store_in_old ns wi few fun h' tk' hn hs => z h' tk' (fun b o nb e => (hs.2 b nb).trans e) hn
end
end Xg
end PySem

namespace Xl
open PySem PySem.Spec PyProof.Rows L2 Gy
/-- what the written part says of an own exception class at C -/
structure XCl (K : PySem.W.Frag) (C : Addr) : Prop where
  base : ∃ B newId initId bmB, ExcBaseFacts B newId initId bmB ∧ StoreFacts B bmB "object.__setattr__" "object" ∧ PySem.W.excInitIn K C bmB newId = true ∧ PySem.W.excOver K C bmB = true
  sa : PySem.W.findIn K (.ref C) "__setattr__" = some (some (.builtin "object.__setattr__"))
  ga : PySem.W.findIn K (.ref C) "__getattribute__" = some (some (.builtin "BaseException.__getattribute__"))
  gg : PySem.W.findIn K (.ref C) "__getattr__" = some none
  ca : PySem.W.findIn K (.ref C) "__class__" = some (some (.builtin "object.__class__"))
  ex : PySem.W.subIn K (.ref C) (.type "BaseException") = some true
  ob : PySem.W.mroIn K C (.type "object") = some true
  hd : PySem.W.hasDictIn K C = true
  kp : PySem.W.keepIn K (.ref C) = true
/-- its __init__ stands at fI -/
structure XIn (K : PySem.W.Frag) (C fI : Addr) : Prop extends XCl K C where
  ini : PySem.W.findIn K (.ref C) "__init__" = some (some (.ref fI))
  tf : PySem.W.typeIn K (.ref fI) = some (.type "function")
section
variable {X : Cx} {pins : List (Addr × Obj)} {σ : L2.St} {H : Hp} {s : Shared} {a C dx : Addr} {f : Str} {y : V} {u : Value} {fs : List (Str × V)} {Q : Unit → Shared → Prop} {E : Value → Shared → Prop} {A : Around}
theorem set_new (T : XCl X.K C) (I : Inv X pins σ H s) (e : H a = some (exo a C none)) (no : PySem.W.findIn X.K (.ref C) f = some none) (ry : RelV y u)
    (z : ∀ dx s', H dx = none → dx ≠ a → Inv X pins σ (upd (upd H dx (exd dx [(f, y)])) a (exo a C (some dx))) s' → Q () s') :
    wpAny (model X.prog X.w) A (setAttr (.ref a) f u) Q E s := by
  obtain ⟨B, nI, iI, bmB, _, SF, _, ov⟩ := T.base
  obtain ⟨t1, at_⟩ := exo_at I.hok e
  obtain ⟨hp, g, d, t, os⟩ := s
  have tk : PySem.W.takerIn X.K C f = some none := by
    unfold PySem.W.takerIn
    rw [no]
    rfl
  refine PySem.W.set_plain I.kIn (od := none) ⟨at_, rfl, rfl, trivial⟩ T.sa ?_
  refine PySem.Xg.osa_first SF I.kIn at_ ov tk T.hd ?_
  intro h' tk' dx keep big ne atX ns
  have free : H dx = none := I.hok.fresh big
  have old : ∀ {b o}, hp.get? b = some o → b ≠ dx := fun q => Nat.ne_of_lt (Nat.lt_of_lt_of_le (Heap.lt_size q) big)
  have noA : ∀ {b}, H b = none → b ≠ a := fun {b} n y => by
    rw [y, e] at n
    cases n
  have other : ∀ {b o}, H b = some o → o ≠ exo a C none → upd (upd H dx (exd dx [(f, y)])) a (exo a C (some dx)) b = some o := by
    intro b o q ne'
    have nb : b ≠ a := fun y => by
      rw [y, e] at q
      exact ne' (Option.some.inj q).symm
    rw [upd_ne nb, upd_ne (ne_of_none q free)]
    exact q
  have U : Un X.fs [] H (upd (upd H dx (exd dx [(f, y)])) a (exo a C (some dx))) hp h' := by
    refine ⟨fun b o q n _ _ => keep b o (noA n) q, fun b o q n _ _ => ⟨o.slots, keep b o (noA n) q⟩, fun b o q n _ => ?_, fun b o q _ => ?_, fun b xs q => ?_, fun b o v q => ?_, fun b ps q => ⟨#[], ?_⟩⟩
    · rw [upd_ne (noA n), upd_ne (old q)]
      exact n
    · by_cases nb : b = a
      · exact ⟨_, by rw [nb]; exact atX⟩
      · exact ⟨o, keep b o nb q⟩
    · exact other q (fun y => exo_tup y.symm)
    · exact other q (fun y => exo_frz y.symm)
    · rw [other q (fun y => exo_tbl y.symm)]
      simp
  refine z dx _ free ne (I.un (t' := tk') U ?_)
  intro b o q
  by_cases nb : b = a
  · subst nb
    rw [upd_same] at q
    cases q
    exact exo_ok atX
  · rw [upd_ne nb] at q
    by_cases nd : b = dx
    · subst nd
      rw [upd_same] at q
      cases q
      exact exd_ok ns (relO_put (fs := []) ry fun _ => True.intro)
    · rw [upd_ne nd] at q
      refine (I.hok b o q).stay (fun c v hc y => keep c v ?_ y) (fun c hc => other hc (fun y => exo_own y.symm)) (fun c xs hc => other hc (fun y => exo_tup y.symm))
      rcases hc with hc | hc
      · rw [hc]
        exact nb
      · exact at_ne e hc exo_own
theorem set_more (T : XCl X.K C) (I : Inv X pins σ H s) (e : H a = some (exo a C (some dx))) (ed : H dx = some (exd dx fs)) (few : fs.length ≤ 900) (no : PySem.W.findIn X.K (.ref C) f = some none) (ry : RelV y u)
    (z : ∀ s', Inv X pins σ (upd H dx (exd dx ((f, y) :: fs))) s' → Q () s') : wpAny (model X.prog X.w) A (setAttr (.ref a) f u) Q E s := by
  obtain ⟨B, nI, iI, bmB, _, SF, _, ov⟩ := T.base
  obtain ⟨t1, at_⟩ := exo_at I.hok e
  obtain ⟨mA, ns, rel⟩ := exd_at I.hok ed
  have wi := within_of rel
  obtain ⟨hp, g, d, t, os⟩ := s
  obtain ⟨oD, _, _, gD, _, _⟩ := ns.count wi
  have tk : PySem.W.takerIn X.K C f = some none := by
    unfold PySem.W.takerIn
    rw [no]
    rfl
  refine PySem.W.set_plain I.kIn (od := some oD) ⟨at_, rfl, rfl, gD⟩ T.sa ?_
  refine PySem.Xg.osa_next SF I.kIn at_ ns wi (by rw [List.length_map]; omega) ov tk T.hd ?_
  intro h' tk' keep hn
  have there : ∃ o, h'.get? dx = some o := by
    obtain ⟨o, _, _, q, _⟩ := hn
    exact ⟨o, q⟩
  exact z _ (I.write (t' := tk') (x := dx) (e := dx) (o := exd dx ((f, y) :: fs)) (by rw [ed]; trivial) (.inl rfl) keep there (exd_ok hn (relO_put ry rel)))
end
/-! ### readings and rules -/
/-- self.f = e in such an __init__ -/
def tXs (K : PySem.W.Frag) (f : Str) (to te : TE) : TS := fun D σ H => te σ H fun y H1 => to σ H1 fun x H2 => ∃ a C : Addr, x = .ref a ∧ XCl K C ∧ PySem.W.findIn K (.ref C) f = some none ∧
  ((H2 a = some (exo a C none) ∧ ∀ dx, H2 dx = none → dx ≠ a → D.nx σ (upd (upd H2 dx (exd dx [(f, y)])) a (exo a C (some dx)))) ∨
    ∃ (dx : Addr) (fs : List (Str × V)), H2 a = some (exo a C (some dx)) ∧ H2 dx = some (exd dx fs) ∧ fs.length ≤ 900 ∧ D.nx σ (upd H2 dx (exd dx ((f, y) :: fs))))
/-- C(..): the object made, then __init__ -/
def tXm (C : Addr) (sp : Sp) (gV : List V → List V → List V) (t tk : TA) : TE := fun σ H Q => t σ H fun vs H0 => tk σ H0 fun zs H1 => vs.length ≤ 1000 ∧ ∀ a, H1 a = none →
  sp (.ref a :: gV vs zs) (upd H1 a (exo a C none)) (fun v H2 => v = .non ∧ Q (.ref a) H2) (fun _ _ _ => False)
section
variable {X : Cx} {o e : Expr} {es : List Expr} {kws : List Keyword} {to te : TE} {t tk : TA} {f : Str} {p p' pos : Pos}
theorem ps_xs (ho : PE X o to) (he : PE X e te) (hs : swapsWith e (some (.Attribute o f p')) pos.line X.env = pure false := by rfl) : PS X (.Assign [.Attribute o f p'] e pos) (tXs X.K f to te) := by
  constructor
  intro pins s σ H D I h
  refine plainObj_wpAny_Assign_Attribute (thn (he.run pins s σ H _ I h) ?_) hs
  rintro v s1 ⟨y, H1, I1, r1, q1⟩
  refine thn (ho.run pins s1 σ H1 _ I1 q1) ?_
  rintro u s2 ⟨x, H2, I2, r2, a, C, rfl, T, no, q⟩
  cases r2
  rcases q with ⟨ea, q⟩ | ⟨dx, fs, ea, ed, few, q⟩
  · exact set_new T I2 ea no r1 fun dx s' n ne J => ⟨σ, _, J, q dx n ne⟩
  · exact set_more T I2 ea ed few no r1 fun s' J => ⟨σ, _, J, q⟩
/-- how positional values and keywords come to __init__'s parameters -/
structure XB (K : PySem.W.Frag) (fd : FuncData) (ps ks : List Str) (g : List Value → List Value → List Value) (gV : List V → List V → List V) : Prop where
  to : ∀ (s : Shared) (b : Value) (us ws : List Value), K.In s.heap → (b :: g us ws).length = ps.length → BindsTo s fd ⟨b :: us, ks.zip ws⟩ (ps.zip (b :: g us ws))
  rel : ∀ {vs : List V} {us : List Value} {zs : List V} {ws : List Value}, Vals vs us → Vals zs ws → Vals (gV vs zs) (g us ws)
variable {CX : CXT} {C fI : Addr} {k : Nat} {fd : FuncData} {ps ks : List Str} {sp : Sp} {g : List Value → List Value → List Value} {gV : List V → List V → List V} {x : Str}
theorem run_x {pins : List (Addr × Obj)} {σ : L2.St} {H : Hp} {s : Shared} {Q : VK} {us ws : List Value} {vs zs : List V} (T : XIn X.K C fI) (F : FnOk X.prog X.w X.K X.mg X.base CX k fI fd ps sp) (hr : Room (k + 1) X.A)
    (hb : XB X.K fd ps ks g gV) (hx : Passes CX X (fun _ _ _ => False)) (I : Inv X pins σ H s) (r : Vals vs us) (rz : Vals zs ws) (len : vs.length ≤ 1000)
    (h : ∀ a, H a = none → sp (.ref a :: gV vs zs) (upd H a (exo a C none)) (fun v H2 => v = .non ∧ Q (.ref a) H2) (fun _ _ _ => False)) :
    wpAny (model X.prog X.w) X.A (call (.ref C) us (ks.zip ws)) (EP X pins σ Q) X.xe s := by
  obtain ⟨B, nI, iI, bmB, BF, _, ii, _⟩ := T.base
  obtain ⟨nm, N', qn, bs, bm, hdct, sn, sub, ab, col, dd, k0, k1, k2, k3, k5, cl, hT⟩ := PySem.W.excInit_of I.kIn ii
  obtain ⟨hp, g', dr, tk', os⟩ := s
  have big : hp.objs.size ≤ hp.objs.size + 1 := Nat.le_succ _
  have hq := h (hp.objs.size + 1) (I.hok.fresh big)
  have keep : ∀ b o, hp.get? b = some o → ((hp.push (PySem.W.kdv_tup us)).push (PySem.PX.excO C hp.objs.size)).get? b = some o := fun b o e =>
    Heap.get?_push_of_some _ (Heap.get?_push_of_some _ e)
  have new : ((hp.push (PySem.W.kdv_tup us)).push (PySem.PX.excO C hp.objs.size)).get? (hp.objs.size + 1) = some (PySem.PX.excO C hp.objs.size) := by heap_get
  have I2 := I.laid (t' := tk') (a := hp.objs.size + 1) (o := exo (hp.objs.size + 1) C none) keep big (exo_ok new)
  have r2 : Vals (V.ref (hp.objs.size + 1) :: gV vs zs) (Value.ref (hp.objs.size + 1) :: g us ws) := .cons rfl (hb.rel r rz)
  have bl := hb.to ⟨_, g', dr, tk', os⟩ (Value.ref (hp.objs.size + 1)) us ws I2.kIn (by rw [← r2.length]; exact F.len _ _ _ _ hq)
  refine wpAny_call (PySem.Xg.kw_call BF hT cl (PySem.W.looks_findIn I.kIn T.ini) (fun self => PySem.W.bind_fn I.kIn self T.tf) ?_ (codeAny_mono (F.run _ X.stack _ _ _ _ _ _ _ (hr.make C us (ks.zip ws)) (I2.env0.make C us (ks.zip ws)) bl r2 hq) ?_))
  · rw [← r.length, sizeLine_eq]
    omega
  · rintro (er | (_ | _ | _ | u)) s' z
    · exact hx pins σ _ _ er s' I2 z
    · exact z.elim
    · exact z.elim
    · exact z.elim
    · obtain ⟨v, H', I3, rv, ev, q3⟩ := I2.after z
      subst ev
      exact ⟨rv, V.ref (hp.objs.size + 1), H', I3, rfl, q3⟩
theorem pe_xm (T : XIn X.K C fI) (F : FnOk X.prog X.w X.K X.mg X.base CX k fI fd ps sp) (hr : Room (k + 1) X.A) (hg : Gl X x) (hm : X.mg x = some (.ref C)) (hb : XB X.K fd ps [] g gV) (hx : Passes CX X (fun _ _ _ => False))
    (ha : PA X (e :: es) t) (hdb : (x == ("__debug__" : Str)) = false := by decide) (he : starEach (e :: es) X.env = (false, eval e X.env) :: starEach es X.env := by rfl)
    (hpl : (backTo pos (starEach es X.env)).any (·.1) = false := by rfl) : PE X (.Call (.Name x p) (e :: es) [] pos) (tXm C sp gV t tNil) := by
  constructor
  intro pins s σ H Q I h
  refine wpAny_Call_Name_kw (ld_glob I hg hm ?_ hdb)
  refine PySem.W.callWith_K (h₀ := X.base) I.ok.mod.kin T.kp (thn (ha.run pos pins s σ H _ I h) ?_) he hpl
  rintro us s1 ⟨vs, H1, I1, r, q⟩
  obtain ⟨len, q⟩ := q
  exact ⟨I1.kIn, run_x (ks := []) (ws := []) T F hr hb hx I1 r .nil len q⟩
theorem pe_xm0 (T : XIn X.K C fI) (F : FnOk X.prog X.w X.K X.mg X.base CX k fI fd ps sp) (hr : Room (k + 1) X.A) (hg : Gl X x) (hm : X.mg x = some (.ref C)) (hb : XB X.K fd ps [] g gV) (hx : Passes CX X (fun _ _ _ => False))
    (hdb : (x == ("__debug__" : Str)) = false := by decide) : PE X (.Call (.Name x p) [] [] pos) (tXm C sp gV tNil tNil) := by
  constructor
  intro pins s σ H Q I h
  obtain ⟨len, q⟩ := h
  refine wpAny_Call_Name_kw (ld_glob I hg hm ?_ hdb)
  exact PySem.W.callWith_K0 I.kIn T.kp (run_x (us := []) (ks := []) (ws := []) T F hr hb hx I .nil .nil len q)
theorem pe_xk (T : XIn X.K C fI) (F : FnOk X.prog X.w X.K X.mg X.base CX k fI fd ps sp) (hr : Room (k + 1) X.A) (hg : Gl X x) (hm : X.mg x = some (.ref C)) (hb : XB X.K fd ps ks g gV) (hx : Passes CX X (fun _ _ _ => False))
    (hkw : PK X kws tk) (hall : (backToKw pos (keywordEach kws X.env)).all (·.1.isSome) = true := by rfl) (hks : (backToKw pos (keywordEach kws X.env)).filterMap (·.1) = ks := by rfl)
    (hdb : (x == ("__debug__" : Str)) = false := by decide)
    (hpl : ((backTo pos (starEach [] X.env)).any (·.1) || (backToKw pos (keywordEach kws X.env)).any (·.1.isNone)) = false := by rfl) :
    PE X (.Call (.Name x p) [] kws pos) (tXm C sp gV tNil tk) := by
  constructor
  intro pins s σ H Q I h
  refine wpAny_Call_Name_kw (ld_glob I hg hm ?_ hdb)
  refine PySem.W.callWith_KW0 (h₀ := X.base) I.ok.mod.kin T.kp hall (thn (hkw.run pos pins s σ H _ I h) ?_) hpl
  rintro ws s2 ⟨zs, H2, I2, rz, len, q2⟩
  rw [hks]
  exact ⟨I2.kIn, run_x (us := []) T F hr hb hx I2 .nil rz len q2⟩
/-- an exception of the class C stands at a, its fields fs -/
def XAt (K : PySem.W.Frag) (H : Hp) (a C : Addr) (fs : List (Str × V)) : Prop := XCl K C ∧ ((fs = [] ∧ H a = some (exo a C none)) ∨ ∃ d, H a = some (exo a C (some d)) ∧ H d = some (exd d fs))
/-- e.f -/
def tXf1 (K : PySem.W.Frag) (f : Str) (te : TE) : TE := fun σ H Q => te σ H fun x H1 => ∃ (a C : Addr) (fs : List (Str × V)) (v : V), x = .ref a ∧ XAt K H1 a C fs ∧ PySem.W.findIn K (.ref C) f = some none ∧ fs.lookup f = some v ∧ Q v H1
theorem pe_xf1 {n : Str} (he : PE X e te) (hb : attributeBase e n X.env (eval e X.env) = eval e X.env := by rfl) : PE X (.Attribute e n pos) (tXf1 X.K n te) := by
  constructor
  intro pins s σ H Q I h
  refine attr_of hb (thn (he.run pins s σ H _ I h) ?_)
  rintro u s1 ⟨x, H1, I1, rx, a, C, fs, v, rfl, ⟨T, at_⟩, no, l, q⟩
  cases rx
  rcases at_ with ⟨rfl, _⟩ | ⟨d, ea, ed⟩
  · cases l
  · obtain ⟨t1, ga⟩ := exo_at I1.hok ea
    obtain ⟨mA, ns, rel⟩ := exd_at I1.hok ed
    obtain ⟨od, go, hl⟩ := lookIn_ns ns
    obtain ⟨u, hu, ru⟩ := RelO.some_of (v := v) (o := mA n) (by rw [← l]; exact rel n)
    exact PySem.PX.exc_get I1.kIn (od := some od) ⟨ga, rfl, rfl, go⟩ T.ga T.gg T.ex (PySem.W.findObj_own T.hd no rfl (by rw [hl, hu])) (handed_of ru) ⟨v, H1, I1.tok _, ru, q⟩
/-- isinstance(e, c) -/
def rIsX (K : PySem.W.Frag) : List V → Hp → VK → Prop := fun xs H Q => ∃ (a C : Addr) (fs : List (Str × V)) (c : V) (cv : Value) (b : Bool), xs = [.ref a, c] ∧ XAt K H a C fs ∧ ClsV c cv ∧ PySem.W.kitOne K (.ref C) cv = some b ∧ Q (.bl b) H
theorem call_isX (cg : PySem.W.specialIn X.K (.builtin "object.__class__") "__get__" = some (some (.builtin "getset_descriptor.__get__"))) (ct : PySem.W.takesIn X.K (.builtin "object.__class__") = some true) :
    CallR X (.builtin "isinstance") (rIsX X.K) := by
  intro pins s σ H xs us Q I r h
  obtain ⟨a, C, fs, c, cv, b, rfl, ⟨T, at_⟩, hc, e, q⟩ := h
  obtain ⟨u1, u2, rfl, r1, r2⟩ := vals2 r
  cases r1
  have e2 := hc.eq r2
  subst e2
  have cls : (PySem.W.clsIn X.K C).isSome = true := by
    obtain ⟨cd, z, _⟩ := PySem.W.any_some T.hd
    rw [z]
    rfl
  have inst : ∃ ox od, PySem.W.InstAt s.heap a ox C od := by
    rcases at_ with ⟨_, ea⟩ | ⟨d, ea, ed⟩
    · obtain ⟨t1, ga⟩ := exo_at I.hok ea
      exact ⟨_, none, ga, rfl, rfl, trivial⟩
    · obtain ⟨t1, ga⟩ := exo_at I.hok ea
      obtain ⟨mA, ns, rel⟩ := exd_at I.hok ed
      obtain ⟨od, go, hl⟩ := lookIn_ns ns
      exact ⟨_, some od, ga, rfl, rfl, go⟩
  obtain ⟨ox, od, J⟩ := inst
  exact PySem.W.kia_one (PySem.W.kitx_exc cls T.ga T.gg T.ex T.ca cg ct T.ob) I.kIn J e (fun z => nomatch z) fun tk => ⟨.bl b, H, I.tok tk, rfl, q⟩
/-- C(e, ..) of a class without an __init__ of its own -/
def tXb (C : Addr) (t : TA) : TE := fun σ H Q => t σ H fun vs H1 => vs.length ≤ 1000 ∧ ∀ a, H1 a = none → Q (.ref a) (upd H1 a (exo a C none))
theorem pe_xb (T : XCl X.K C) (hi : ∃ B newId initId bmB, ExcBaseFacts B newId initId bmB ∧ PySem.W.excInitIn X.K C bmB newId = true ∧ PySem.W.findIn X.K (.ref C) "__init__" = some (some (.builtin initId)))
    (hg : Gl X x) (hm : X.mg x = some (.ref C)) (ha : PA X (e :: es) t) (hdb : (x == ("__debug__" : Str)) = false := by decide)
    (he : starEach (e :: es) X.env = (false, eval e X.env) :: starEach es X.env := by rfl) (hpl : (backTo pos (starEach es X.env)).any (·.1) = false := by rfl) :
    PE X (.Call (.Name x p) (e :: es) [] pos) (tXb C t) := by
  constructor
  intro pins s σ H Q I h
  obtain ⟨B, nI, iI, bmB, BF, ii, fi⟩ := hi
  refine wpAny_Call_Name_kw (ld_glob I hg hm ?_ hdb)
  refine PySem.W.callWith_K (h₀ := X.base) I.ok.mod.kin T.kp (thn (ha.run pos pins s σ H _ I h) ?_) he hpl
  rintro us s1 ⟨vs, H1, I1, r, len, q⟩
  refine ⟨I1.kIn, ?_⟩
  obtain ⟨nm, N', qn, bs, bm, hdct, sn, sub, ab, col, dd, k0, k1, k2, k3, k5, cl, hT⟩ := PySem.W.excInit_of I1.kIn ii
  have lk := PySem.W.looks_findIn (M := model X.prog X.w) I1.kIn fi
  obtain ⟨hp, g', dr, tk', os⟩ := s1
  show wpAny _ _ (call (.ref C) us) _ _ _
  refine PySem.W.call_B BF hT cl lk (by rw [← r.length, sizeLine_eq]; omega) fun h' keep new _ => ?_
  exact ⟨V.ref (hp.objs.size + 1), _, I1.laid (t' := tk') keep (Nat.le_succ _) (exo_ok new), rfl, q _ (I1.hok.fresh (Nat.le_succ _))⟩
end
end Xl

namespace Gy
open PySem PySem.Spec PyProof.Rows L2
/-- data, or a dict without entries, or one whose only key is the text k and whose value is an int -/
inductive Dz (K : PySem.W.Frag) (H : Hp) : V → PyData → Prop
  | dat {v : V} {d : PyData} (h : Dp K H v d) (n : d.hasDict = false) : Dz K H v d
  | d0 {a : Addr} (h : H a = some (.dK [])) : Dz K H (.ref a) (.dict [])
  | d1 {a : Addr} {k : Str} {i : Int} (h : H a = some (.dK [(Sum.inr k, .int i)])) : Dz K H (.ref a) (.dict [(.str k, .int i)])
theorem Dz.reads {X : Cx} {pins : List (Addr × Obj)} {σ : L2.St} {H : Hp} {s : Shared} (I : Inv X pins σ H s) {v : V} {d : PyData} {u : Value} (h : Dz X.K H v d) (r : RelV v u) :
    ∃ as, Reads s.heap u d as ∧ (d.hasDict = true → sysModules ∉ as) := by
  cases h with
  | dat h n =>
    obtain ⟨as, z⟩ := Dp.reads I d v u h r
    exact ⟨as, z, fun q => by rw [n] at q; cases q⟩
  | @d0 a h =>
    cases r
    obtain ⟨_, ns, vs, kv, o, es, ep, g1, ex, g2, ks, ps, _⟩ := (show ObjOk X.prog X.w H s.heap a (.dK []) from I.hok a _ h)
    cases kv
    have e : es.toList = [] := by
      generalize es.toList = l at ps
      cases ps
      rfl
    refine ⟨_, .dict g1 ex.1 g2 (as := []) (bs := []) (by rw [e]; exact .nil) (by rw [e]; exact .nil), fun _ q => ?_⟩
    rw [List.append_nil, List.mem_singleton] at q
    rw [← q] at ns
    cases ns
  | @d1 a k i h =>
    cases r
    obtain ⟨_, ns, vs, kv, o, es, ep, g1, ex, g2, ks, ps, _⟩ := (show ObjOk X.prog X.w H s.heap a (.dK [(Sum.inr k, .int i)]) from I.hok a _ h)
    obtain ⟨t1, t2, e1, e2⟩ : ∃ t1 t2, es.toList.map (·.key) = [.str k t1] ∧ es.toList.map (·.val) = [.int i t2] := by
      generalize es.toList = l at ps
      cases kv with
      | cons hk hr =>
        cases hr
        obtain ⟨h1, h2⟩ := hk
        cases ps with
        | cons p1 p2 p3 =>
          cases p3
          rw [← h1] at p1
          rcases keyIs_shape (show keyIs (Sum.inr k) _ = true from p1) with ⟨j, t, q, _⟩ | ⟨x, t, q, q2⟩
          · cases q
          · cases q
            obtain ⟨t2, h2⟩ := h2
            refine ⟨t, t2, ?_, ?_⟩
            · rw [List.map_singleton, q2]
            · rw [List.map_singleton, p2, h2]
    refine ⟨_, .dict g1 ex.1 g2 (as := [] ++ []) (bs := [] ++ []) (by rw [e1]; exact .cons (.str k t1) .nil) (by rw [e2]; exact .cons (.int i t2) .nil), fun _ q => ?_⟩
    have q' : sysModules ∈ [a] := q
    rw [List.mem_singleton] at q'
    rw [← q'] at ns
    cases ns
/-- each of them shown -/
theorem shows_all {X : Cx} {pins : List (Addr × Obj)} {σ : L2.St} {H : Hp} {s : Shared} (I : Inv X pins σ H s) : ∀ {vs : List V} {ds : List PyData} {us : List Value}, Paired (Dz X.K H) vs ds → Vals vs us →
    PyData.showableAll ds = true → (∀ t ∈ PyData.shownAll ds, t.length ≤ sizeLine) →
    ∃ as bs, ReadsAll s.heap us ds as ∧ ReadAtMost s.heap (PyData.depthAll ds) bs ∧ ReprAllK X.prog X.w bs s.heap (PyData.depthAll ds) us (PyData.shownAll ds)
  | _, _, _, .nil, .nil, _, _ => ⟨[], [], .nil, (fun _ h => nomatch h), .nil⟩
  | _, _, _, .cons (b := d) (l₂ := ds) h hs, .cons r rs, sh, len => by
    have sh2 : d.showable = true ∧ PyData.showableAll ds = true := by simpa only [PyData.showableAll, Bool.and_eq_true] using sh
    obtain ⟨as, rd, no⟩ := h.reads I r
    obtain ⟨b1, m1, k1⟩ := ReprK.of_reads (prog := X.prog) (w := X.w) rd sh2.1 no (len _ List.mem_cons_self)
    obtain ⟨as2, b2, rd2, m2, k2⟩ := shows_all I hs rs sh2.2 fun t ht => len t (List.mem_cons_of_mem _ ht)
    have l1 : d.depth ≤ PyData.depthAll (d :: ds) := Nat.le_max_left _ _
    have l2 : PyData.depthAll ds ≤ PyData.depthAll (d :: ds) := Nat.le_max_right _ _
    refine ⟨as ++ as2, b1 ++ b2, .cons rd rd2, (m1.mono l1).append (m2.mono l2), ?_⟩
    exact .cons ((k1.more fun b hb => List.mem_append_left _ hb).level_le l1) (k2.more_le (fun b hb => List.mem_append_right _ hb) l2)
/-- repr of a list of such values -/
def rRepr (K : PySem.W.Frag) : List V → Hp → VK → Prop := fun xs H Q => ∃ l vs ds, xs = [.ref l] ∧ SqL K H l vs ∧ vs ≠ [] ∧ Paired (Dz K H) vs ds ∧ PyData.showableAll ds = true ∧ PyData.depthAll ds ≤ 60 ∧
  (listText (PyData.shownAll ds)).length ≤ sizeLine ∧ Q (.str (listText (PyData.shownAll ds))) H
theorem repr_dz {X : Cx} (hg : X.A.guards = some []) (hu : X.A.units + 70 < cLine) : CallR X (.builtin "repr") (rRepr X.K) := by
  intro pins s σ H xs us Q I r h
  obtain ⟨l, vs, ds, rfl, sq, nn, dz, sh, dp, len, q⟩ := h
  obtain ⟨u, rfl, ru⟩ := vals1 r
  cases ru
  obtain ⟨its, rv, ⟨o, n, g1, g2, _, g3⟩, _⟩ := I.list sq
  obtain ⟨as, bs, rd, at_, sw⟩ := shows_all I dz rv sh fun t ht => Nat.le_trans (listText_mem_le ht) len
  have out : l ∉ bs := not_mem_of_deeper (.list g1 g2 g3 rd) (by simp only [PyData.depth]; omega) at_
  match its, nn, rv, g3, rd, sw with
  | [], nn, rv, _, _, _ =>
    cases rv
    exact absurd rfl nn
  | x :: rest, _, _, g3, _, sw =>
    refine call_repr_slot (T := "list") (idr := "list.__repr__") (by omega) ⟨o, g1, g2⟩ F.slot_list_repr.toG ?_
    refine call_list_reprK g1 g2 g3 out (by simpa using sw.length_eq) (fun i y e => sw.item i y (by simpa using e)) (g := []) hg (fun b _ => Clear.nil b) (d := PyData.depthAll ds) ?_ (fun _ _ e => e) (fun h' u tk hk => ?_) len
    · show X.A.units + 1 + (PyData.depthAll ds + 1) < cLine
      omega
    · exact ⟨_, _, rfl, .str _, H, I.kept hk, ⟨u, rfl⟩, q⟩
end Gy

/-! Own exceptions over any base raised and caught: one field; several clauses with a name. -/
namespace Xl
open PySem PySem.Spec PyProof.Rows L2 Gy
/-- an __init__ of one field f -/
def spI1 (C : Addr) (f : Str) : Sp := fun vs H Q _ => ∃ (a : Addr) (v : V), vs = [.ref a, v] ∧ H a = some (exo a C none) ∧ ∀ dx, H dx = none → dx ≠ a → Q .non (upd (upd H dx (exd dx [(f, v)])) a (exo a C (some dx)))
theorem del_made {H : Hp} {a dx C : Addr} {f : Str} {v : V} (n : H a = none) (ne : dx ≠ a) :
    upd (del (upd (upd (upd H a (exo a C none)) dx (exd dx [(f, v)])) a (exo a C (some dx))) a) dx (.xd [(f, v)]) = upd H dx (.xd [(f, v)]) := by
  funext b
  by_cases h1 : b = dx
  · rw [h1, upd_same, upd_same]
  · rw [upd_ne h1, upd_ne h1]
    by_cases h2 : b = a
    · rw [h2, del_same, n]
    · rw [del_ne h2, upd_ne h2, upd_ne h1, upd_ne h2]
section
variable {X : Cx} {C fI : Addr} {fd : FuncData} {f x : Str} {e : Expr} {te : TE} {p pos : Pos} {CX' : CXT}
/-- C(e), to be raised -/
def tMk1 (C : Addr) (f : Str) (t : TA) : L2.St → Hp → XK → Prop := fun σ H Q => t σ H fun vs H1 => ∃ v, vs = [v] ∧ ∀ d, H1 d = none → Q (.ref C) (some d) (upd H1 d (.xd [(f, v)]))
theorem pmk_x1 {t : TA} (T : XIn X.K C fI) (ty : PySem.W.typeIn X.K (.ref C) = some (.type "type")) (F : FnOk X.prog X.w X.K X.mg X.base CX0 1 fI fd ["self", f] (spI1 C f)) (hr : Room 2 X.A)
    (hb : XB X.K fd ["self", f] [] (fun us _ => us) (fun vs _ => vs)) (hg : Gl X x) (hm : X.mg x = some (.ref C)) (ha : PA X [e] t)
    (hdb : (x == ("__debug__" : Str)) = false := by decide) (hst : starEach [e] X.env = (false, eval e X.env) :: starEach [] X.env := by rfl) :
    PMk X (.Call (.Name x p) [e] [] pos) (tMk1 C f t) := by
  intro pins s σ H Q I h
  refine wpAny_Call_Name_kw (ld_glob I hg hm ?_ hdb)
  refine PySem.W.callWith_K (h₀ := X.base) I.ok.mod.kin T.kp (thn (ha.run pos pins s σ H _ I h) ?_) hst rfl
  rintro us s1 ⟨vs, H1, I1, r1, v, rfl, q1⟩
  refine ⟨I1.kIn, ?_⟩
  show wpAny _ _ (call (.ref C) us) _ _ _
  obtain ⟨B, nI, iI, bmB, BF, _, ii, _⟩ := T.base
  obtain ⟨nm, N', qn, bs, bm, hdct, sn, sub, ab, col, dd, k0, k1, k2, k3, k5, cl, hT⟩ := PySem.W.excInit_of I1.kIn ii
  obtain ⟨hp, g', dr, tk', os⟩ := s1
  have big : hp.objs.size ≤ hp.objs.size + 1 := Nat.le_succ _
  have na : H1 (hp.objs.size + 1) = none := I1.hok.fresh big
  have keep : ∀ b o, hp.get? b = some o → ((hp.push (PySem.W.kdv_tup us)).push (PySem.PX.excO C hp.objs.size)).get? b = some o := fun b o e =>
    Heap.get?_push_of_some _ (Heap.get?_push_of_some _ e)
  have new : ((hp.push (PySem.W.kdv_tup us)).push (PySem.PX.excO C hp.objs.size)).get? (hp.objs.size + 1) = some (PySem.PX.excO C hp.objs.size) := by heap_get
  have I2 := I1.laid (t' := tk') (a := hp.objs.size + 1) (o := exo (hp.objs.size + 1) C none) keep big (exo_ok new)
  have r2 : Vals [V.ref (hp.objs.size + 1), v] (Value.ref (hp.objs.size + 1) :: us) := .cons rfl r1
  have hq : spI1 C f [V.ref (hp.objs.size + 1), v] (upd H1 (hp.objs.size + 1) (exo (hp.objs.size + 1) C none))
      (fun r H2 => r = .non ∧ ∃ dx, dx ≠ hp.objs.size + 1 ∧ upd H1 (hp.objs.size + 1) (exo (hp.objs.size + 1) C none) dx = none ∧
        H2 = upd (upd (upd H1 (hp.objs.size + 1) (exo (hp.objs.size + 1) C none)) dx (exd dx [(f, v)])) (hp.objs.size + 1) (exo (hp.objs.size + 1) C (some dx))) (fun _ _ _ => False) :=
    ⟨_, v, rfl, upd_same, fun dx nd ne => ⟨rfl, dx, ne, nd, rfl⟩⟩
  have bl := hb.to ⟨_, g', dr, tk', os⟩ (Value.ref (hp.objs.size + 1)) us [] I2.kIn (by rw [← r2.length]; rfl)
  refine wpAny_call (PySem.Xg.kw_call BF hT cl (PySem.W.looks_findIn I1.kIn T.ini) (fun self => PySem.W.bind_fn I1.kIn self T.tf) ?_ (codeAny_mono (F.run _ X.stack _ _ _ _ _ _ _ (hr.make C us []) (I2.env0.make C us []) bl r2 hq) ?_))
  · rw [← r1.length, sizeLine_eq]
    show 1 ≤ 16777216
    decide
  · rintro (er | (_ | _ | _ | u)) s' z
    · exact (show False from z).elim
    · exact z.elim
    · exact z.elim
    · exact z.elim
    · obtain ⟨r, H2, os2, bare2, un2, hok2, rv, er, dx, ne, nd, e2⟩ := z
      subst er
      obtain ⟨h2, g2, d2, t2, os'⟩ := s'
      subst e2
      refine ⟨rv, mk_end (raises_own T.ex ty) I1 big keep un2 hok2 os2 bare2 upd_same ((upd_ne ne).trans upd_same) ((upd_ne ne).symm.trans nd) ?_⟩
      rw [del_made na ne]
      exact q1 dx ((upd_ne ne).symm.trans nd)
/-- raise C(e) -/
theorem ps_raise1 {W : WX} {t : TA} {rp : Pos} (hc : X.calm = true) (tk : Takes X W) (T : XIn X.K C fI) (ty : PySem.W.typeIn X.K (.ref C) = some (.type "type")) (F : FnOk X.prog X.w X.K X.mg X.base CX0 1 fI fd ["self", f] (spI1 C f)) (hr : Room 2 X.A)
    (hb : XB X.K fd ["self", f] [] (fun us _ => us) (fun vs _ => vs)) (hg : Gl X x) (hm : X.mg x = some (.ref C)) (ha : PA X [e] t)
    (hdb : (x == ("__debug__" : Str)) = false := by decide) (hst : starEach [e] X.env = (false, eval e X.env) :: starEach [] X.env := by rfl) :
    PS X (.Raise (some (.Call (.Name x p) [e] [] pos)) none rp) (fun _ σ H => tMk1 C f t σ H fun cls d H' => W cls d σ H') :=
  ps_raise hc tk (pmk_x1 T ty F hr hb hg hm ha hdb hst)
end
section
variable {X : Cx}
/-- what several clauses 'except x as n' wish of an exception of the body, one after the other: slot i is n's -/
def wManyAs (K : PySem.W.Frag) (i : Nat) (Wout : WX) (D : Ends) : List (Value × (Addr → Value → Option Addr → TS)) → WX
  | [] => Wout
  | (c, ts) :: r => fun cls d σ H => ∃ b, PySem.W.exmOne K cls c = some b ∧
      (b = true → ∀ a, H a = none → ts a cls d { nx := fun σ' H' => D.nx (σ'.set i none) H', rt := D.rt, bk := fun σ' H' => D.bk (σ'.set i none) H', ct := fun σ' H' => D.ct (σ'.set i none) H' } (σ.set i (some (.ref a))) H) ∧
      (b = false → wManyAs K i Wout D r cls d σ H)
inductive HdsAs (X : Cx) (n : Str) : List ExceptHandler → List (Value × (Addr → Value → Option Addr → TS)) → Prop
  | nil : HdsAs X n [] []
  | cons {x : Str} {c : Value} {ts : Addr → Value → Option Addr → TS} {b₀ : Stmt} {suite : List Stmt} {np pos' : Pos} {hds : List ExceptHandler} {l : List (Value × (Addr → Value → Option Addr → TS))} (hc : Names X x c)
      (hsu : ∀ (a : Addr) (oe : Obj) (cls : Value) (d : Option Addr) (pn : List (Addr × Obj)), Zc cls d oe → (∃ vs, oe.data = .fields vs) → PSs (X.suite a ((a, oe) :: pn)) (b₀ :: suite) (ts a cls d)) (r : HdsAs X n hds l) :
      HdsAs X n (.ExceptHandler (some (.Name x np)) (some n) (b₀ :: suite) pos' :: hds) ((c, ts) :: l)
variable {body : List Stmt} {h₀ : ExceptHandler} {hds : List ExceptHandler} {l : List (Value × (Addr → Value → Option Addr → TS))} {n : Str} {i : Nat} {pos : Pos} {tb : WX → TS} {Wout : WX}
/-- try: body, several clauses 'except x as n' -/
theorem ps_try_manyAs (hs : X.stack = X.env :: X.outer) (hf : X.env.frame = some X.env.locals) (hN : X.N.Nodup) (hi : X.N[i]? = some n) (hln : X.env.kindOf n = some .local) (tk : Takes X Wout)
    (hb : ∀ (W : WX) (pn : List (Addr × Obj)) (xe : Value → Shared → Prop), Takes (X.tr pn xe) W → PassesOwn (model X.prog X.w) X.A X.env xe → PSs (X.tr pn xe) body (tb W))
    (hh : HdsAs X n (h₀ :: hds) l) : PS X (.Try body (h₀ :: hds) [] [] pos) (fun D σ H => tb (wManyAs X.K i Wout D l) D σ H) := by
  constructor
  intro pins s σ H D I h
  have ok := I.ok
  have fr : X.A.frames = some (X.env :: X.outer) := by
    rw [ok.frames, hs]
  refine wpAny_Try_except ?_
  have run := hb (wManyAs X.K i Wout D l) (X.pn ++ pins) (fun e s₁ => wpAny (model X.prog X.w) X.A (noteFrame e X.env) (fun _ s₂ => wpAny (model X.prog X.w) X.A (setFlight e none)
    (fun _ s₃ => wpAny (model X.prog X.w) X.A (handleBy e X.env (h₀ :: hds)) (SP X pins D) X.xe s₃) X.xe s₂) X.xe s₁) ?tk PassesOwn.looking
  case tk =>
    rintro u s' ⟨a, B, sI, pins', σ', H', cls, d, rfl, J', nb, up, sky, na, os, ag, wish⟩
    have J := J'.ofTry ok
    rw [show (X.tr (X.pn ++ pins) _).stack = X.env :: X.outer from hs] at sky
    refine Sky.land Zc.steady fr hf sky fun h3 fl3 up3 => ?_
    have J3 : Inv X pins σ' H' { s' with heap := h3 } := J.landed nb fl3.1 (up.trans up3) os ag
    obtain ⟨oe3, vs3, at3, z3, d3⟩ := fl3.there
    have out : a ∉ frs (X.env :: X.outer) := fun m => by
      obtain ⟨_, o', q', nf⟩ := fl3.2.2.1.mem m
      rw [at3] at q'
      cases q'
      exact nf _ d3
    have nL : a ≠ X.env.locals := fun z => out (List.mem_filterMap.mpr ⟨X.env, List.mem_cons_self, by rw [hf, z]⟩)
    have nF : a ∉ X.fs := fun m => by
      obtain ⟨e', he', q'⟩ := List.mem_filterMap.mp m
      exact out (List.mem_filterMap.mpr ⟨e', List.mem_cons_of_mem _ he', q'⟩)
    have S3 := J3.suite at3 d3 na nL nF
    have go : ∀ {hds' l'}, HdsAs X n hds' l' → wManyAs X.K i Wout D l' cls d σ' H' → wpAny (model X.prog X.w) X.A (handleBy (.ref a) X.env hds') (SP X pins D) X.xe { s' with heap := h3 } := by
      intro hds' l' hk
      induction hk with
      | nil =>
        intro wish
        refine wpAny_handleBy_nil ?_
        obtain ⟨k1, k2, k3, oe, vs, T, oT, ts', he, hz, hd, h1, hr⟩ := id fl3
        unfold PySem.passOn
        refine wpAny_bind (wpAny_field he hd h1 ?_)
        rw [if_neg (show ¬ ((Value.ref T == Value.none) = true) from by simp)]
        have fin : wpAny (model X.prog X.w) X.A (setFlight (.ref a) X.env.frame) (fun _ s4 => wpAny (model X.prog X.w) X.A (throw (.ref a) : Sem Flow) (SP X pins D) X.xe s4) X.xe { s' with heap := h3 } := by
          rw [hf]
          refine HandSPX.setFlight_upZ fl3 fun h4 hh4 up4 => wpAny_throw (tk _ _ ?_)
          refine ⟨a, B, sI, pins, σ', H', cls, d, rfl, J, nb, (up.trans up3).trans up4, .inr (.inr ?_), na, os, ag, wish⟩
          rw [hs]
          exact hh4
        first
          | exact wpAny_bind (wpAny_pure (wpAny_bind fin))
          | exact wpAny_bind fin
      | @cons x c ts b₀ suite np pos' hds2 l2 hc hsu r ih =>
        rintro ⟨b, hb1, yes, no⟩
        refine wpAny_handleBy_cons (codeAny_handlers_test ?_) (by intro q; cases q)
        have ty : PySem.W.Looks (model X.prog X.w) h3 (typeOf (.ref a)) cls := fun A Q E s k q => wpAny_typeOf_ref (k _ _ at3) (by rw [z3.1]; exact q)
        have look := PySem.W.exm_one (M := model X.prog X.w) J3.kIn ty hb1
        have name : ∀ {Q : Value → Shared → Prop} {E : Value → Shared → Prop}, Q c { s' with heap := h3 } → wpAny (model X.prog X.w) (X.A.mark (some (.ref a))) (eval (.Name x np) X.env) Q E { s' with heap := h3 } := by
          intro Q E q
          obtain ⟨hg, hdbg, hm | ⟨hm, hv, hnn⟩⟩ := hc
          · exact ld_glob (X := X.suite a ((a, oe3) :: (X.pn ++ pins))) S3 hg hm q hdbg
          · exact ld_blt (X := X.suite a ((a, oe3) :: (X.pn ++ pins))) S3 hg hm hv q hnn hdbg
        refine name (look.here ?_)
        cases b with
        | false =>
          show wpAny _ X.A (handleBy (.ref a) X.env hds2) _ _ _
          exact ih (no rfl)
        | true =>
          refine codeAny_handlers_suite_as ?_
          refine HandSPX.lands_againZ fl3 fun h4 fl4 up4 => ?_
          have J4 : Inv X pins σ' H' { s' with heap := h4 } := J.landed nb fl4.1 ((up.trans up3).trans up4) os ag
          obtain ⟨oe4, vs4, at4, z4, d4⟩ := fl4.there
          have S4 := J4.suite at4 d4 na nL nF
          refine store_ok (X := X.suite a ((a, oe4) :: (X.pn ++ pins))) (v := .ref a) S4 hN hi (.inl hln) rfl (fun s5 S5 => ?_) (.inr hln)
          refine wpAny_mono ((hsu a oe4 cls d (X.pn ++ pins) z4 ⟨_, d4⟩).run [] s5 _ H' _ S5 (yes rfl a na)) (fun f s6 sp => ?_) (fun _ _ z => False.elim z)
          have leave : ∀ {σ6 : L2.St} {H6 : Hp} {Q : Shared → Prop}, Inv (X.suite a ((a, oe4) :: (X.pn ++ pins))) [] σ6 H6 s6 → (∀ s7, Inv X pins (σ6.set i none) H6 s7 → Q s7) →
              wpAny (model X.prog X.w) X.A (do bindName X.env n .none; unbindBehindTheSuite X.env n pos') (fun _ s7 => Q s7) X.xe s6 := fun S6 hq => gone_ok (S6.unsuite ok) hN hi hln hq
          cases f with
          | ret u =>
            obtain ⟨v6, σ6, H6, S6, r6, q6⟩ := sp
            exact leave S6 fun s7 J7 => ⟨_, _, _, J7, r6, q6⟩
          | _ =>
            obtain ⟨σ6, H6, S6, q6⟩ := sp
            exact leave S6 fun s7 J7 => ⟨_, _, J7, q6⟩
    exact go hh wish
  refine wpAny_mono (run.run [] s σ H D (I.toTry _) h) (fun f s1 sp => ?_) (fun e s1 he => he)
  cases f with
  | next =>
    obtain ⟨σ', H', J', q⟩ := sp
    exact wpAny_execs_nil ⟨σ', H', J'.ofTry ok, q⟩
  | ret u =>
    obtain ⟨v, σ', H', J', r, q⟩ := sp
    exact ⟨v, σ', H', J'.ofTry ok, r, q⟩
  | _ =>
    obtain ⟨σ', H', J', q⟩ := sp
    exact ⟨σ', H', J'.ofTry ok, q⟩
end
end Xl

/-! In an except suite: isinstance of the caught error, whose fields stand in its dict. -/
namespace Xl
open PySem PySem.Spec PyProof.Rows L2 Gy
def rIsS (K : PySem.W.Frag) (a : Addr) (cls : Value) (d : Option Addr) : List V → Hp → VK → Prop := fun xs H Q => ∃ (D dd : Addr) (fs : List (Str × V)) (c : V) (cv : Value) (b : Bool),
  xs = [.ref a, c] ∧ cls = .ref D ∧ d = some dd ∧ H dd = some (.xd fs) ∧ XCl K D ∧ ClsV c cv ∧ PySem.W.kitOne K (.ref D) cv = some b ∧ Q (.bl b) H
theorem call_isS {X : Cx} {a : Addr} {oe : Obj} {cls : Value} {d : Option Addr} {pn : List (Addr × Obj)} (cg : PySem.W.specialIn X.K (.builtin "object.__class__") "__get__" = some (some (.builtin "getset_descriptor.__get__")))
    (ct : PySem.W.takesIn X.K (.builtin "object.__class__") = some true) (hz : Zc cls d oe) (hf : ∃ vs, oe.data = .fields vs) : CallR (X.suite a ((a, oe) :: pn)) (.builtin "isinstance") (rIsS X.K a cls d) := by
  intro pins s σ H xs us Q I r h
  obtain ⟨D, dd, fs, c, cv, b, rfl, rfl, rfl, hd, T, hc, e, q⟩ := h
  obtain ⟨u1, u2, rfl, r1, r2⟩ := vals2 r
  cases r1
  have e2 := hc.eq r2
  subst e2
  obtain ⟨ha, _⟩ := I.pin (a, oe) (List.mem_append_left _ List.mem_cons_self)
  obtain ⟨vs, hv⟩ := hf
  obtain ⟨mA, ns, _⟩ := (show ObjOk X.prog X.w H s.heap dd (.xd fs) from I.hok dd _ hd)
  obtain ⟨od, go, _⟩ := lookIn_ns ns
  have cl : (PySem.W.clsIn X.K D).isSome = true := by
    obtain ⟨cd, z, _⟩ := PySem.W.any_some T.hd
    rw [z]
    rfl
  have J : PySem.W.InstAt s.heap a oe D (some od) := by
    obtain ⟨oc, odd, oda, osl⟩ := oe
    obtain ⟨h1, h2⟩ := hz
    dsimp only at h1 h2 hv
    subst h1 h2 hv
    exact ⟨ha, rfl, rfl, go⟩
  exact PySem.W.kia_one (PySem.W.kitx_exc cl T.ga T.gg T.ex T.ca cg ct T.ob) I.kIn J e (fun z => nomatch z) fun tk => ⟨.bl b, H, I.tok tk, rfl, q⟩
end Xl

/-! Tuples that are made in the run, known to have no dict of their own: so their methods can be called. -/
namespace Xt
open PySem PySem.Spec PyProof.Rows L2
/-- a tuple that was made in the run -/
def Tz (H : Hp) (a : Addr) (xs : List V) : Prop := ∃ o : Obj, H a = some (.frz o (.tup xs)) ∧ o.cls = .type "tuple" ∧ o.dict = none
theorem Tz.sq {K : PySem.W.Frag} {H : Hp} {a : Addr} {xs : List V} (h : Tz H a xs) : SqT K H a xs := by
  obtain ⟨o, e, _⟩ := h
  exact .inl (.inr ⟨o, e⟩)
theorem Tz.same {H H' : Hp} {a : Addr} {xs : List V} (h : Tz H a xs) (s : Same H H') : Tz H' a xs := by
  obtain ⟨o, e, c⟩ := h
  exact ⟨o, s _ _ e, c⟩
theorem Tz.ty {K : PySem.W.Frag} {H : Hp} {a : Addr} {xs : List V} (h : Tz H a xs) : TyX K H (.ref a) (.type "tuple") := by
  obtain ⟨o, e, _⟩ := h
  exact .fTuple e
theorem Tz.ne {H : Hp} {a p : Addr} {xs : List V} (h : Tz H a xs) (n : H p = none) : a ≠ p := by
  obtain ⟨o, e, _⟩ := h
  exact ne_of_none e n
/-- the goal behind a new tuple -/
def NewT (xs : List V) (H : Hp) (Q : VK) : Prop := ∀ p o, H p = none → Same H (upd H p o) → Tz (upd H p o) p xs → Q (.ref p) (upd H p o)
section
variable {X : Cx} {pins : List (Addr × Obj)} {σ : L2.St} {H : Hp} {s : Shared} {Q : VK}
theorem lay_new (I : Inv X pins σ H s) {xs : List V} {us : List Value} {n : Nat} (z : xs.length ≤ sizeLine) (r : Vals xs us) (q : NewT xs H Q) :
    EP X pins σ Q (.ref s.heap.objs.size) { s with heap := s.heap.push { cls := .type "tuple", data := .seq us.toArray n } } := by
  have new : H s.heap.objs.size = none := I.hok.fresh (Nat.le_refl _)
  have got : (s.heap.push { cls := .type "tuple", data := .seq us.toArray n }).get? s.heap.objs.size = some { cls := .type "tuple", data := .seq us.toArray n } := Heap.get?_push_size _ rfl
  refine ⟨.ref s.heap.objs.size, upd H s.heap.objs.size (.frz { cls := .type "tuple", data := .seq us.toArray n } (.tup xs)), I.laid (t' := s.toks) (fun b u e => Heap.get?_push_of_some _ e) (Nat.le_refl _) ⟨got, z, us, r, _, got, rfl, n, rfl⟩, rfl, ?_⟩
  refine q _ _ new (fun b x e => ?_) ⟨_, upd_same, rfl, rfl⟩
  rw [upd_ne (ne_of_none e new)]
  exact e
/-- a written tuple -/
def tTupZ (t : TA) : TE := fun σ H Q => t σ H fun xs H1 => xs.length ≤ sizeLine ∧ NewT xs H1 Q
theorem pe_tupZ {es : List Expr} {t : TA} {x1} {pos : Pos} (h : PA X es t) : PE X (.Tuple es x1 pos) (tTupZ t) := by
  refine ⟨fun pins s σ H Q I hq => wpAny_Tuple_spliced (thn (h.run pos pins s σ H _ I hq) fun us s1 ⟨xs, H1, I1, r, z, q⟩ => ⟨by rw [← r.length]; exact z, ?_⟩)⟩
  exact lay_new I1 z r q
/-- tuple(xs), xs a list -/
def rTupOf (K : PySem.W.Frag) : List V → Hp → VK → Prop := fun xs H Q => ∃ p ys, xs = [.ref p] ∧ SqL K H p ys ∧ ys.length ≤ 1000 ∧ NewT ys H Q
theorem call_tupOf : CallR X (.type "tuple") (rTupOf X.K) := by
  intro pins s σ H xs us Q I r h
  obtain ⟨p, ys, rfl, sq, le, q⟩ := h
  obtain ⟨u, rfl, rx⟩ := vals1 r
  cases rx
  obtain ⟨its, rv, pl, z⟩ := I.list sq
  have el := rv.length
  refine call_tuple_list pl.isList (fun h2 keep => ?_) (by simp only [List.size_toArray]; omega)
  exact lay_new (n := 0) (I.kept (t' := s.toks) keep) z rv q
/-- t[a:b], not the whole -/
def rCut (K : PySem.W.Frag) : V → Option Int → Option Int → Hp → VK → Prop := fun x lo hi H Q => ∃ a xs, x = .ref a ∧ SqT K H a xs ∧ ¬ (HT.sIx xs.length 0 lo = 0 ∧ HT.sIx xs.length xs.length hi = xs.length) ∧ NewT (cutV xs lo hi) H Q
theorem sl_cut : SlR X (rCut X.K) := by
  intro pins s σ H x v vl vu lo hi sl Q I rx hs pl pu h
  obtain ⟨a, xs, rfl, sq, part, q⟩ := h
  cases rx
  obtain ⟨its, r, at_, z⟩ := I.tuple sq
  have el : its.toArray.size = xs.length := by rw [List.size_toArray]; exact r.length.symm
  refine ⟨"tuple", _, PyProof.Rows.slot_tuple_getitem.lookup, at_.typeIs, HT.getItem_tuple_cut at_ hs pl pu (by rw [el]; exact part) ?_ (by rw [el]; exact z)⟩
  rw [el]
  exact lay_new I (Nat.le_trans (cutV_length xs lo hi) z) ((r.drop (HT.sIx xs.length 0 lo)).take (HT.sIx xs.length xs.length hi - HT.sIx xs.length 0 lo)) q
/-- t[a:b] of any kind: the whole is t itself; what comes is told by a relation that both give -/
def rCutA (K : PySem.W.Frag) : V → Option Int → Option Int → Hp → VK → Prop := fun x lo hi H Q => ∃ a xs, x = .ref a ∧ Tz H a xs ∧ (cutV xs lo hi = xs → Q (.ref a) H) ∧ NewT (cutV xs lo hi) H Q
theorem cut_whole {xs : List V} {lo hi : Option Int} (h : HT.sIx xs.length 0 lo = 0 ∧ HT.sIx xs.length xs.length hi = xs.length) : cutV xs lo hi = xs := by
  unfold cutV
  rw [h.1, h.2, List.drop_zero, Nat.sub_zero, List.take_of_length_le (Nat.le_refl _)]
theorem sl_cutA : SlR X (rCutA X.K) := by
  intro pins s σ H x v vl vu lo hi sl Q I rx hs pl pu h
  obtain ⟨a, xs, rfl, tz, q1, q2⟩ := h
  by_cases w : HT.sIx xs.length 0 lo = 0 ∧ HT.sIx xs.length xs.length hi = xs.length
  · exact sl_tupA pins s σ H _ v vl vu lo hi sl Q I rx hs pl pu ⟨a, xs, rfl, tz.sq, fun _ => q1 (cut_whole w), fun z => absurd w z⟩
  · exact sl_cut pins s σ H _ v vl vu lo hi sl Q I rx hs pl pu ⟨a, xs, rfl, tz.sq, w, q2⟩
/-- t + u -/
def rSum (K : PySem.W.Frag) : R2 := fun x y H Q => ∃ a b xs ys, x = .ref a ∧ y = .ref b ∧ Tz H a xs ∧ Tz H b ys ∧ xs.length + ys.length ≤ sizeLine ∧ (xs = [] → Q (.ref b) H) ∧ (ys = [] → Q (.ref a) H) ∧ NewT (xs ++ ys) H Q
theorem op_sum : OpR X (binaryOp .Add) (rSum X.K) := by
  intro pins s σ H x y v u Q I rx ry h
  obtain ⟨a, b, xs, ys, rfl, rfl, ta, tb, z, q0, q1, q2⟩ := h
  cases rx
  cases ry
  obtain ⟨its, r1, p1, _⟩ := I.tuple ta.sq
  obtain ⟨its2, r2, p2, _⟩ := I.tuple tb.sq
  by_cases e : xs = []
  · subst e
    cases r1
    exact cat_tup0 p1 p2 ⟨.ref b, H, I, rfl, q0 rfl⟩
  · refine HT.cat_tup p1 p2 (fun w => e (r1.nil_iff.mp w)) (fun w => ⟨.ref a, H, I, rfl, q1 (r2.nil_iff.mp w)⟩) (fun _ => ?_) (by rw [← r1.length, ← r2.length]; exact z)
    exact lay_new I (by rw [List.length_append]; exact z) (r1.append r2) q2
/-- t.m(e, ..), t a tuple made in the run -/
def tTm (r : V → List V → Hp → VK → Prop) (to : TE) (t : TA) : TE := fun σ H Q => to σ H fun x H1 => (∃ a xs, x = .ref a ∧ Tz H1 a xs) ∧ t σ H1 fun ys H2 => r x ys H2 Q
theorem pe_tm {o e : Expr} {es : List Expr} {to : TE} {t : TA} {name : Str} {apos cpos : Pos} {id : String} {r : V → List V → Hp → VK → Prop} (slot : Slot "tuple" name id) (hty : typeOf (.builtin id) = pure (.type "method_descriptor")) (hm : MtR X id r) (ho : PE X o to) (ha : PA X (e :: es) t)
    (hbase : attributeBase o name X.env (eval o X.env) = eval o X.env := by rfl)
    (few : ((backTo cpos (starEach (e :: es) X.env)).all (fun x => !x.1) && (backToKw cpos (keywordEach [] X.env)).all (fun x => x.1.isSome) && decide ((e :: es).length + ([] : List Keyword).length + (if ([] : List Keyword).isEmpty then 0 else 1) < 30)) = true := by rfl)
    (hline : (apos.endLine == cpos.line) = true := by rfl) (hs : starEach (e :: es) X.env = (false, eval e X.env) :: starEach es X.env := by rfl) (hpl : (backTo cpos (starEach es X.env)).any (·.1) = false := by rfl) :
    PE X (.Call (.Attribute o name apos) (e :: es) [] cpos) (tTm r to t) := by
  refine ⟨fun pins s σ H Q I h => wpAny_Call_method_late hbase few hline rfl (thn (ho.run pins s σ H _ I h) fun v s1 ⟨x, H1, I1, r1, ty, q1⟩ => ?_)⟩
  obtain ⟨a, xs, rfl, ob, eo, oc, od⟩ := ty
  cases r1
  have got : s1.heap.get? a = some ob := (show ObjOk X.prog X.w H1 s1.heap a (.frz ob (.tup xs)) from I1.hok a _ eo).1
  refine ⟨"tuple", id, PySem.F.plainAttrs_tuple, slot, hty, ⟨ob, got, oc⟩, fun b eb => by cases eb; exact ⟨ob, got, od⟩, ?_⟩
  have args := ha.run cpos pins s1 σ H1 _ I1 q1
  rw [hs] at args ⊢
  refine Calls.callWith_builtin (by show (false || (backTo cpos (starEach es X.env)).any (·.1)) = false; rw [hpl]; rfl) (Calls.evalArgs_plain (thn args fun us s2 ⟨vs, H2, I2, r2, q2⟩ => ?_))
  exact hm pins s2 σ H2 (.ref a) vs (.ref a) us Q I2 rfl r2 q2
end
end Xt

/-! Data at any depth, with dicts without entries anywhere in it: how it is read and shown. -/
namespace Gy
open PySem PySem.Spec PyProof.Rows L2 Xt
mutual
inductive Dn (K : PySem.W.Frag) (H : Hp) : V → PyData → Prop
  | non : Dn K H .non .none
  | bl (b : Bool) : Dn K H (.bl b) (.bool b)
  | int (i : Int) : Dn K H (.int i) (.int i)
  | str (x : Str) : Dn K H (.str x) (.str x)
  | lst {a : Addr} {xs : List V} {ds : List PyData} (h : H a = some (.lst xs)) (t : Dns K H xs ds) : Dn K H (.ref a) (.list ds)
  | tup {a : Addr} {xs : List V} {ds : List PyData} (h : Tz H a xs) (t : Dns K H xs ds) : Dn K H (.ref a) (.tuple ds)
  | dic {a : Addr} (h : H a = some (.dK [])) : Dn K H (.ref a) (.dict [])
  | dic1 {a : Addr} (h : H a = some (.dK [(Sum.inr "a", .int 1)])) : Dn K H (.ref a) (.dict [(.str "a", .int 1)])
inductive Dns (K : PySem.W.Frag) (H : Hp) : List V → List PyData → Prop
  | nil : Dns K H [] []
  | cons {v : V} {vs : List V} {d : PyData} {ds : List PyData} (h : Dn K H v d) (t : Dns K H vs ds) : Dns K H (v :: vs) (d :: ds)
end
mutual
theorem Dn.same {K : PySem.W.Frag} {H H' : Hp} (s : Same H H') : ∀ {v : V} {d : PyData}, Dn K H v d → Dn K H' v d
  | _, _, .non => .non
  | _, _, .bl b => .bl b
  | _, _, .int i => .int i
  | _, _, .str x => .str x
  | _, _, .lst h a => .lst (s _ _ h) (Dns.same s a)
  | _, _, .tup h a => .tup (h.same s) (Dns.same s a)
  | _, _, .dic h => .dic (s _ _ h)
  | _, _, .dic1 h => .dic1 (s _ _ h)
theorem Dns.same {K : PySem.W.Frag} {H H' : Hp} (s : Same H H') : ∀ {vs : List V} {ds : List PyData}, Dns K H vs ds → Dns K H' vs ds
  | _, _, .nil => .nil
  | _, _, .cons h t => .cons (Dn.same s h) (Dns.same s t)
end
/-- a dict without entries, as the model has it -/
theorem dict_at {X : Cx} {pins : List (Addr × Obj)} {σ : L2.St} {H : Hp} {s : Shared} (I : Inv X pins σ H s) {a : Addr} (h : H a = some (.dK [])) :
    (a == sysModules) = false ∧ ∃ o es ep, s.heap.get? a = some o ∧ o.cls = .type "dict" ∧ o.data = .dict es ep ∧ es.toList = [] ∧ Reads s.heap (.ref a) (.dict []) [a] := by
  obtain ⟨_, ns, vs, kv, o, es, ep, g1, ex, g2, ks, ps, _⟩ := (show ObjOk X.prog X.w H s.heap a (.dK []) from I.hok a _ h)
  cases kv
  have e : es.toList = [] := by
    generalize es.toList = l at ps
    cases ps
    rfl
  exact ⟨ns, o, es, ep, g1, ex.1, g2, e, .dict g1 ex.1 g2 (as := []) (bs := []) (by rw [e]; exact .nil) (by rw [e]; exact .nil)⟩
/-- a dict with one entry -/
theorem dict_at1 {X : Cx} {pins : List (Addr × Obj)} {σ : L2.St} {H : Hp} {s : Shared} (I : Inv X pins σ H s) {a : Addr} (h : H a = some (.dK [(Sum.inr "a", .int 1)])) :
    (a == sysModules) = false ∧ ∃ o es ep e t1 t2, s.heap.get? a = some o ∧ o.cls = .type "dict" ∧ o.data = .dict es ep ∧ es.toList = [e] ∧ e.key = .str "a" t1 ∧ e.val = .int 1 t2 ∧ Reads s.heap (.ref a) (.dict [(.str "a", .int 1)]) [a] := by
  obtain ⟨_, ns, vs, kv, o, es, ep, g1, ex, g2, ks, ps, _⟩ := (show ObjOk X.prog X.w H s.heap a (.dK [(Sum.inr "a", .int 1)]) from I.hok a _ h)
  obtain ⟨e, t1, t2, e0, e1, e2⟩ : ∃ e t1 t2, es.toList = [e] ∧ e.key = .str "a" t1 ∧ e.val = .int 1 t2 := by
    generalize es.toList = l at ps
    cases kv with
    | cons hk hr =>
      cases hr
      obtain ⟨h1, h2⟩ := hk
      cases ps with
      | cons p1 p2 p3 =>
        cases p3
        rw [← h1] at p1
        rcases keyIs_shape (show keyIs (Sum.inr "a") _ = true from p1) with ⟨j, t, q, _⟩ | ⟨x, t, q, q2⟩
        · cases q
        · cases q
          obtain ⟨t2, h2⟩ := h2
          exact ⟨_, t, t2, rfl, q2, p2.trans h2⟩
  refine ⟨ns, o, es, ep, e, t1, t2, g1, ex.1, g2, e0, e1, e2, ?_⟩
  have q := Reads.dict g1 ex.1 g2 (kvs := [(.str "a", .int 1)]) (as := [] ++ []) (bs := [] ++ []) (by rw [e0, List.map_singleton, e1]; exact .cons (.str "a" t1) .nil) (by rw [e0, List.map_singleton, e2]; exact .cons (.int 1 t2) .nil)
  exact q
section
variable {X : Cx} {pins : List (Addr × Obj)} {σ : L2.St} {H : Hp} {s : Shared}
mutual
theorem Dn.shows (I : Inv X pins σ H s) : ∀ {v : V} {d : PyData} {u : Value}, Dn X.K H v d → RelV v u → d.showable = true → d.shown.length ≤ sizeLine →
    ∃ as bs, Reads s.heap u d as ∧ ReadAtMost s.heap d.depth bs ∧ ReprK X.prog X.w bs s.heap d.depth u d.shown
  | _, _, _, .non, r, hs, hz => by
    cases r
    obtain ⟨bs, h1, h2⟩ := ReprK.of_reads (prog := X.prog) (w := X.w) (h₀ := s.heap) Reads.none hs (fun z => nomatch z) hz
    exact ⟨_, bs, .none, h1, h2⟩
  | _, _, _, .bl b, r, hs, hz => by
    cases r
    obtain ⟨bs, h1, h2⟩ := ReprK.of_reads (prog := X.prog) (w := X.w) (h₀ := s.heap) (Reads.bool b) hs (fun z => nomatch z) hz
    exact ⟨_, bs, .bool b, h1, h2⟩
  | _, _, _, .int i, r, hs, hz => by
    obtain ⟨t, rfl⟩ := r
    obtain ⟨bs, h1, h2⟩ := ReprK.of_reads (prog := X.prog) (w := X.w) (h₀ := s.heap) (Reads.int i t) hs (fun z => nomatch z) hz
    exact ⟨_, bs, .int i t, h1, h2⟩
  | _, _, _, .str x, r, hs, hz => by
    obtain ⟨t, rfl⟩ := r
    obtain ⟨bs, h1, h2⟩ := ReprK.of_reads (prog := X.prog) (w := X.w) (h₀ := s.heap) (Reads.str x t) hs (fun z => nomatch z) hz
    exact ⟨_, bs, .str x t, h1, h2⟩
  | _, _, _, .lst (a := a) (ds := ds) h ha, r, hs, hz => by
    cases r
    have hz' : (listText (PyData.shownAll ds)).length ≤ sizeLine := by simpa only [PyData.shown] using hz
    obtain ⟨its, rv, ⟨o, n, ho, hc, _, hd⟩, _⟩ := I.list (SqL.of h)
    obtain ⟨as, bs, hr, hb, hk⟩ := Dns.shows I ha rv (by simpa [PyData.showable] using hs) (fun t ht => Nat.le_trans (listText_mem_le ht) hz')
    have q : Reads s.heap (.ref a) (.list ds) _ := .list ho hc hd hr
    have hna : a ∉ bs := not_mem_of_deeper q (by simp only [PyData.depth]; omega) hb
    refine ⟨_, a :: bs, q, ReadAtMost.cons q (by simp only [PyData.depth]; omega) hb, ?_⟩
    simp only [PyData.depth, PyData.shown]
    cases its with
    | nil =>
      cases hr
      simp only [PyData.shownAll, listText_nil]
      exact ReprK.listEmpty ho hc hd
    | cons x l => exact ReprK.list ho hc hd hna (by simpa using hk.length_eq) (fun i y e => hk.item i y (by simpa using e))
  | _, _, _, .tup (a := a) (ds := ds) h ha, r, hs, hz => by
    cases r
    have hz' : (tupleText (PyData.shownAll ds)).length ≤ sizeLine := by simpa only [PyData.shown] using hz
    obtain ⟨its, rv, ⟨o, ho, hc, n, hd⟩, _⟩ := I.tuple h.sq
    obtain ⟨as, bs, hr, hb, hk⟩ := Dns.shows I ha rv (by simpa [PyData.showable] using hs) (fun t ht => Nat.le_trans (tupleText_mem_le ht) hz')
    have q : Reads s.heap (.ref a) (.tuple ds) _ := .tuple ho hc hd hr
    have hna : a ∉ bs := not_mem_of_deeper q (by simp only [PyData.depth]; omega) hb
    refine ⟨_, a :: bs, q, ReadAtMost.cons q (by simp only [PyData.depth]; omega) hb, ?_⟩
    simp only [PyData.depth, PyData.shown]
    exact ReprK.tuple ho hc hd hna hk
  | _, _, _, .dic (a := a) h, r, hs, hz => by
    cases r
    obtain ⟨ns, o, es, ep, ho, hc, hd, he, q⟩ := dict_at I h
    refine ⟨_, [a], q, ReadAtMost.cons q (n := 0) (Nat.zero_le _) (fun _ z => nomatch z), ?_⟩
    exact ReprK.dict (as := []) (d := 0) (ps := []) ho hc hd ns (fun z => nomatch z) (by rw [he]; exact .nil)
  | _, _, _, .dic1 (a := a) h, r, hs, hz => by
    cases r
    obtain ⟨ns, o, es, ep, e, t1, t2, ho, hc, hd, he, e1, e2, q⟩ := dict_at1 I h
    obtain ⟨bs, h1, h2⟩ := ReprK.of_reads (prog := X.prog) (w := X.w) (h₀ := s.heap) q hs (fun _ z => by
      rw [List.mem_singleton] at z
      rw [← z] at ns
      cases ns) hz
    exact ⟨_, bs, q, h1, h2⟩
theorem Dns.shows (I : Inv X pins σ H s) : ∀ {vs : List V} {ds : List PyData} {us : List Value}, Dns X.K H vs ds → Vals vs us → PyData.showableAll ds = true → (∀ t ∈ PyData.shownAll ds, t.length ≤ sizeLine) →
    ∃ as bs, ReadsAll s.heap us ds as ∧ ReadAtMost s.heap (PyData.depthAll ds) bs ∧ ReprAllK X.prog X.w bs s.heap (PyData.depthAll ds) us (PyData.shownAll ds)
  | _, _, _, .nil, .nil, _, _ => ⟨[], [], .nil, (fun _ h => nomatch h), .nil⟩
  | _, _, _, .cons (d := d) (ds := ds) h hs, .cons r rs, sh, len => by
    have sh2 : d.showable = true ∧ PyData.showableAll ds = true := by simpa only [PyData.showableAll, Bool.and_eq_true] using sh
    obtain ⟨as, b1, rd, m1, k1⟩ := Dn.shows I h r sh2.1 (len _ List.mem_cons_self)
    obtain ⟨as2, b2, rd2, m2, k2⟩ := Dns.shows I hs rs sh2.2 fun t ht => len t (List.mem_cons_of_mem _ ht)
    have l1 : d.depth ≤ PyData.depthAll (d :: ds) := Nat.le_max_left _ _
    have l2 : PyData.depthAll ds ≤ PyData.depthAll (d :: ds) := Nat.le_max_right _ _
    refine ⟨as ++ as2, b1 ++ b2, .cons rd rd2, (m1.mono l1).append (m2.mono l2), ?_⟩
    exact .cons ((k1.more fun b hb => List.mem_append_left _ hb).level_le l1) (k2.more_le (fun b hb => List.mem_append_right _ hb) l2)
end
end
/-- repr of any such value -/
def rReprN (K : PySem.W.Frag) : List V → Hp → VK → Prop := fun xs H Q => ∃ v d, xs = [v] ∧ Dn K H v d ∧ d.showable = true ∧ d.depth ≤ 60 ∧ d.shown.length ≤ sizeLine ∧ Q (.str d.shown) H
theorem repr_dn {X : Cx} (hg : X.A.guards = some []) (hu : X.A.units + 70 < cLine) : CallR X (.builtin "repr") (rReprN X.K) := by
  intro pins s σ H xs us Q I r h
  obtain ⟨v, d, rfl, dn, sh, dp, len, q⟩ := h
  obtain ⟨u, rfl, ru⟩ := vals1 r
  have fin : ∀ (h' : Heap) (x : Tok) (tk : Nat), (∀ b o, s.heap.get? b = some o → h'.get? b = some o) → ∃ y H', Inv X pins σ H' { s with heap := h', toks := tk } ∧ RelV y (.str d.shown x) ∧ Q y H' := fun h' x tk hk => ⟨.str d.shown, H, I.kept hk, ⟨x, rfl⟩, q⟩
  cases dn with
  | non =>
    cases ru
    exact P.repr_of_none ⟨.str "None", H, I.tok _, ⟨_, rfl⟩, q⟩
  | bl b =>
    cases ru
    exact P.repr_of_bool ⟨.str (PyData.shown (.bool b)), H, I.tok _, ⟨_, by cases b <;> rfl⟩, q⟩
  | int i =>
    obtain ⟨t, rfl⟩ := ru
    exact P.repr_of_int (by simpa [PyData.showable] using sh) ⟨.str (toString i), H, I.tok _, ⟨_, rfl⟩, q⟩
  | str x =>
    obtain ⟨t, rfl⟩ := ru
    exact P.repr_of_str ⟨.str (reprText x), H, I.tok _, ⟨_, rfl⟩, q⟩ len
  | @lst a ys ds h ha =>
    cases ru
    have len' : (listText (PyData.shownAll ds)).length ≤ sizeLine := by simpa only [PyData.shown] using len
    obtain ⟨its, rv, ⟨o, n, g1, g2, _, g3⟩, _⟩ := I.list (SqL.of h)
    obtain ⟨as, bs, rd, at_, sw⟩ := Dns.shows I ha rv (by simpa [PyData.showable] using sh) fun t ht => Nat.le_trans (listText_mem_le ht) len'
    have out : a ∉ bs := not_mem_of_deeper (.list g1 g2 g3 rd) (by simp only [PyData.depth]; omega) at_
    refine call_repr_slot (T := "list") (idr := "list.__repr__") (by omega) ⟨o, g1, g2⟩ F.slot_list_repr.toG ?_
    match its, rv, g3, rd, sw with
    | [], rv, g3, rd, _ =>
      cases rd
      exact call_list_repr_empty ⟨o, g1, g2⟩ g1 g3 ⟨_, _, rfl, .str "[]", H, I.tok _, ⟨_, rfl⟩, by simpa only [PyData.shown, PyData.shownAll, listText_nil] using q⟩
    | x :: rest, _, g3, _, sw =>
      refine call_list_reprK g1 g2 g3 out (by simpa using sw.length_eq) (fun i y e => sw.item i y (by simpa using e)) (g := []) hg (fun b _ => Clear.nil b) (d := PyData.depthAll ds) ?_ (fun _ _ e => e) (fun h' u tk hk => ⟨_, _, rfl, fin h' u tk hk⟩) len'
      simp only [PyData.depth] at dp
      show X.A.units + 1 + (PyData.depthAll ds + 1) < cLine
      omega
  | @tup a ys ds h ha =>
    cases ru
    have len' : (tupleText (PyData.shownAll ds)).length ≤ sizeLine := by simpa only [PyData.shown] using len
    obtain ⟨its, rv, ⟨o, g1, g2, n, g3⟩, _⟩ := I.tuple h.sq
    obtain ⟨as, bs, rd, at_, sw⟩ := Dns.shows I ha rv (by simpa [PyData.showable] using sh) fun t ht => Nat.le_trans (tupleText_mem_le ht) len'
    have out : a ∉ bs := not_mem_of_deeper (.tuple g1 g2 g3 rd) (by simp only [PyData.depth]; omega) at_
    refine call_repr_slot (T := "tuple") (idr := "tuple.__repr__") (by omega) ⟨o, g1, g2⟩ F.slot_tuple_repr ?_
    refine call_tuple_reprK g1 g2 g3 out sw (g := []) hg (fun b _ => Clear.nil b) (d := PyData.depthAll ds) ?_ (fun _ _ e => e) (fun h' u tk hk => ⟨_, _, rfl, fin h' u tk hk⟩) len'
    simp only [PyData.depth] at dp
    show X.A.units + 1 + (PyData.depthAll ds + 1) < cLine
    omega
  | @dic a h =>
    cases ru
    obtain ⟨ns, o, es, ep, g1, g2, g3, he, _⟩ := dict_at I h
    refine call_repr_slot (T := "dict") (idr := "dict.__repr__") (by omega) ⟨o, g1, g2⟩ F.slot_dict_repr ?_
    refine call_dict_reprK (as := []) (d := 0) (ps := []) g1 g2 g3 ns (fun z => nomatch z) (by rw [he]; exact .nil) (g := []) hg (fun b _ => Clear.nil b) ?_ (fun _ _ e => e) (fun h' u tk hk => ⟨_, _, rfl, fin h' u tk hk⟩) len
    show X.A.units + 1 + (0 + 1) < cLine
    omega
  | @dic1 a h =>
    cases ru
    obtain ⟨ns, o, es, ep, e, t1, t2, g1, g2, g3, he, e1, e2, rd⟩ := dict_at1 I h
    obtain ⟨b1, m1, k1⟩ := ReprK.of_reads (prog := X.prog) (w := X.w) (h₀ := s.heap) (Reads.str "a" t1) rfl (fun z => nomatch z) (by decide +kernel)
    obtain ⟨b2, m2, k2⟩ := ReprK.of_reads (prog := X.prog) (w := X.w) (h₀ := s.heap) (Reads.int 1 t2) (by decide +kernel) (fun z => nomatch z) (by decide +kernel)
    have out : a ∉ b1 ++ b2 := not_mem_of_deeper (n := 0) rd (by decide) (m1.append m2)
    refine call_repr_slot (T := "dict") (idr := "dict.__repr__") (by omega) ⟨o, g1, g2⟩ F.slot_dict_repr ?_
    refine call_dict_reprK (as := b1 ++ b2) (d := 0) (ps := [reprText "a" ++ ": " ++ PyData.shown (.int 1)]) g1 g2 g3 ns out (by rw [he]; exact .cons (by rw [e1]; exact k1.more fun b hb => List.mem_append_left _ hb) (by rw [e2]; exact k2.more fun b hb => List.mem_append_right _ hb) .nil) (g := []) hg (fun b _ => Clear.nil b) ?_ (fun _ _ e => e) (fun h' u tk hk => ⟨_, _, rfl, fin h' u tk hk⟩) len
    show X.A.units + 1 + (0 + 1) < cLine
    omega
end Gy

/-! len(set(t)) of a tuple of texts, of any number of them. -/
namespace Xs
open PySem PySem.Spec PyProof.Rows L2
/-- how many different ones the first i are -/
def numd (xs : List Str) : Nat → Nat
  | 0 => 0
  | i + 1 => if xs.getD i Str.empty ∈ xs.take i then numd xs i else numd xs i + 1
theorem numd_le (xs : List Str) : ∀ i, numd xs i ≤ i
  | 0 => Nat.le_refl _
  | i + 1 => by
    have := numd_le xs i
    unfold numd
    split <;> omega
theorem numd_full (xs : List Str) : ∀ i, i ≤ xs.length → (numd xs i = i ↔ (xs.take i).Nodup)
  | 0, _ => by simp [numd]
  | i + 1, hi => by
    have lt : i < xs.length := hi
    have ih := numd_full xs i (Nat.le_of_lt lt)
    have le := numd_le xs i
    have e : xs.getD i Str.empty = xs[i] := by rw [List.getD_eq_getElem?_getD, List.getElem?_eq_getElem lt]; rfl
    have t : xs.take (i + 1) = xs.take i ++ [xs[i]] := by rw [List.take_add_one, List.getElem?_eq_getElem lt]; rfl
    unfold numd
    rw [e, t]
    by_cases m : xs[i] ∈ xs.take i
    · rw [if_pos m]
      refine ⟨fun z => by omega, fun z => ?_⟩
      rw [List.nodup_append] at z
      exact absurd rfl (z.2.2 _ m _ List.mem_cons_self)
    · rw [if_neg m]
      refine ⟨fun z => ?_, fun z => ?_⟩
      · rw [List.nodup_append]
        refine ⟨ih.mp (by omega), by simp, fun a ha b hb ab => ?_⟩
        rw [List.mem_singleton.mp hb] at ab
        exact m (ab ▸ ha)
      · rw [List.nodup_append] at z
        rw [ih.mpr z.1]
section
variable {P : Program} {w : World} {A : Around} {R : Result → Shared → Prop} {J : Addr} {fp wr : List Addr} {G : Array GenState → Array GenState → Prop} {n : Nat} {Y : Nat → Value → Prop} {Z : Nat → Shared → Prop}
/-- the set takes text after text -/
theorem take_texts (W : WalksS P w A.in1 J fp wr G n Y Z) (S : Addr) (out : S ∉ fp) (xs : List Str) (len : xs.length = n) (room : n + 1 < scanBound) (val : ∀ i v, Y i v → ∃ t, v = .str (xs.getD i Str.empty) t) :
    ∀ (k i : Nat) (s : Shared), n - i = k → i ≤ n → Z i s → s.heap.SetOf (strKind P w) S (fun x => decide (x ∈ xs.take i)) (numd xs i) →
      (∀ s2, Moved (S :: wr) G s s2 → s2.heap.SetOf (strKind P w) S (fun x => decide (x ∈ xs.take n)) (numd xs n) → R (.ok (.ret .none)) s2) →
      codeAny (model P w) A (.builtin "set.update.loop" ⟨[.ref S, .ref J], []⟩) R s := by
  have out2 : S ∉ wr := fun h => out (W.sub _ h)
  have more : ∀ b ∈ wr, b ∈ S :: wr := fun b hb => List.mem_cons_of_mem _ hb
  intro k
  induction k with
  | zero =>
    intro i s ek le z hS fin
    obtain rfl : i = n := by omega
    refine codeAny_builtin PyProof.Rows.F.entry_set_update_loop ?_; rw [Around.under_plainId PyProof.Rows.F.plain_set_update_loop _]
    show wpAny _ A.in1 (pyNext (.ref J) >>= _) _ _ s
    refine wpAny_bind (W.done s _ _ z fun s2 mv => ?_)
    obtain ⟨o, es, ep, t, ho, rest⟩ := hS
    exact wpAny_pure (fin s2 (mv.mono more) ⟨o, es, ep, t, mv.heap S _ out2 ho, rest⟩)
  | succ k ih =>
    intro i s ek le z hS fin
    have lt : i < n := by omega
    refine codeAny_builtin PyProof.Rows.F.entry_set_update_loop ?_; rw [Around.under_plainId PyProof.Rows.F.plain_set_update_loop _]
    show wpAny _ A.in1 (pyNext (.ref J) >>= _) _ _ s
    refine wpAny_bind (W.item i s _ _ lt z fun v s2 hY z2 mv => ?_)
    obtain ⟨t, rfl⟩ := val i v hY
    have hS2 : s2.heap.SetOf (strKind P w) S (fun x => decide (x ∈ xs.take i)) (numd xs i) := by
      obtain ⟨o, es, ep, tb, ho, rest⟩ := hS
      exact ⟨o, es, ep, tb, mv.heap S _ out2 ho, rest⟩
    show wpAny _ A.in1 (holding [Value.str (xs.getD i Str.empty) t] (setAdd S (.str (xs.getD i Str.empty) t)) >>= _) _ _ s2
    refine wpAny_bind (wpAny_holding ?_); unfold setAdd; refine wpAny_holding ?_
    refine wpAny_bind ((strKind P w).pyHash (k := xs.getD i Str.empty) (strKind_is _ _ _ _) ?_)
    have nl := numd_le xs i
    refine wpAny_setAddHashed_of (knd := strKind P w) (s := { s2 with toks := s2.toks + 1 }) (strKind_is _ _ _ _) rfl hS2 (by omega) fun h3 sb hS3 => ?_
    have hS4 : h3.SetOf (strKind P w) S (fun x => decide (x ∈ xs.take (i + 1))) (numd xs (i + 1)) := by
      have lt' : i < xs.length := by omega
      have e : xs.getD i Str.empty = xs[i] := by rw [List.getD_eq_getElem?_getD, List.getElem?_eq_getElem lt']; rfl
      have t : xs.take (i + 1) = xs.take i ++ [xs[i]] := by rw [List.take_add_one, List.getElem?_eq_getElem lt']; rfl
      refine SetOf_congr hS3 (fun x => ?_) ?_
      · show (decide (x ∈ xs.take i) || decide (x = xs.getD i Str.empty)) = decide (x ∈ xs.take (i + 1))
        rw [e, ← Bool.decide_or]
        congr 1
        rw [t, List.mem_append, List.mem_singleton]
      · show _ = if xs.getD i Str.empty ∈ xs.take i then numd xs i else numd xs i + 1
        simp only [decide_eq_true_eq]
    refine wpAny_pure ⟨plainId_quiet PyProof.Rows.F.plain_set_update_loop _, ih (i + 1) _ (by omega) lt (W.frame _ s2 _ _ z2 (Nat.le_succ _) fun b hb o e => ?_) hS4 fun s4 mv4 hS5 => ?_⟩
    · rw [sb.2 b (fun h : b = S => out (h ▸ hb))]
      exact e
    · refine fin s4 (Moved.trans W.gtrans ((mv.mono more).then_heap (Nat.le_succ _) fun b o hb e => ?_) mv4) hS5
      rw [sb.2 b (fun h : b = S => hb (h ▸ List.mem_cons_self))]
      exact e
end
/-- the set before anything is in it -/
def set0 (b : Bool) : Obj := { cls := .type "set", dict := none, data := .set #[] 0 (.fresh 0 0 b) }
section
variable {P : Program} {w : World} {A : Around} {E : Value → Shared → Prop} {s : Shared}
set_option maxHeartbeats 3200000 in
theorem set_of_texts {l : Addr} {its : Array Value} {xs : List Str} {Q : Value → Shared → Prop} (calm : A.handled = none) (at_ : s.heap.IsTuple l its) (are : StrsAre its.toList xs) (room : xs.length + 1 < scanBound)
    (fin : ∀ (h2 : Heap) (tk : Nat), h2.SetOf (strKind P w) s.heap.objs.size (fun x => decide (x ∈ xs)) (numd xs xs.length) → (∀ b o, b < s.heap.objs.size → s.heap.get? b = some o → h2.get? b = some o) → Q (.ref s.heap.objs.size) { s with heap := h2, toks := tk }) :
    wpAny (model P w) A (call (.type "set") [.ref l]) Q E s := by
  have sz : xs.length = its.size := by rw [← StrsAre.len_eq are, Array.length_toList]
  obtain ⟨_, _, m0⟩ := PySem.F.called_set.mro
  have m1 := PySem.F.called_set.made; have m2 := PySem.F.called_set.sub
  refine wpAny_call (codeAny_of_tree ?_); show wpAny _ _ (callAny (.type "set") _) _ _ _
  refine wpAny_pure ⟨Code.quiet_builtin _ (by decide +kernel), codeAny_builtin PySem.F.entry_type_call ?_⟩; rw [Around.under_plain (weight_type_call_type "set" [.ref l] []) rfl]
  have m3 := PySem.F.called_set.notType; have m4 := PySem.F.called_set.canCreate; have m5 := PySem.F.typeCall_set_1 (.ref l)
  repeat (any_goals (first | assumption | wp_step))
  refine codeAny_mono (code_set_new_1 (.ref l) (E := E) (Q₁ := fun ob s1 => ∃ led : Bool, ob = .ref s.heap.objs.size ∧ s1 = { s with heap := s.heap.push (set0 led) }) fun led => ⟨led, rfl, rfl⟩) fun r s1 hr => ?_
  rcases r with e | (_ | _ | _ | ob)
  · exact hr
  · exact hr.elim
  · exact hr.elim
  · exact hr.elim
  obtain ⟨led, rfl, rfl⟩ := hr
  have got : (s.heap.push (set0 led)).get? s.heap.objs.size = some (set0 led) := Heap.get?_push_size _ rfl
  have ty : Shared.TypeIs { s with heap := s.heap.push (set0 led) } (.ref s.heap.objs.size) "set" := ⟨_, got, rfl⟩
  have m6 := PySem.F.called_set.init.lookup; have m7 := PySem.F.called_set.init.bind (.ref s.heap.objs.size)
  repeat (any_goals (first | assumption | wp_step))
  refine codeAny_mono (codeAny_call_builtin (R := wants (fun r s2 => r = .none ∧ ∃ h2 tk, s2 = { s with heap := h2, toks := tk } ∧ h2.SetOf (strKind P w) s.heap.objs.size (fun x => decide (x ∈ xs)) (numd xs xs.length) ∧
      (∀ b o, b < s.heap.objs.size → s.heap.get? b = some o → h2.get? b = some o)) E) PySem.F.called_set.init.plain PySem.F.entry_set_init (check_set_init_1 ty ?_)) fun r2 s2 hr2 => ?_
  · obtain ⟨ol, go, co, nl, dl⟩ := at_
    obtain ⟨ocls, odict, odata, oslots⟩ := ol
    simp only at co dl
    subst co dl
    have go2 : (s.heap.push (set0 led)).get? l = some { cls := .type "tuple", dict := odict, data := .seq its nl, slots := oslots } := Heap.get?_push_of_some _ go
    have m8 := PySem.F.sub_tuple_set; have m9 := PySem.F.sub_tuple_frozenset
    have m10 : (Value.type "tuple" == Value.type "dict") = false := by decide
    have at2 : (s.heap.push (set0 led)).IsTuple l its := ⟨_, go2, rfl, nl, rfl⟩
    unfold Builtin.«set.__init__» noKeywords Builtin.Frozenset.updateFrom; generalize ePI : pyIter = PI
    wp_walk
    subst ePI
    refine wpAny_pyIter_tuple at2 (wpAny_bind (wpAny_runValue ?_))
    have low : l < s.heap.objs.size := Heap.lt_size go
    have calm3 : A.in1.in1.in1.handled = none := by simp [calm]
    have far : l ≠ (s.heap.push (set0 led)).objs.size := by rw [Heap.size_push]; exact Nat.ne_of_lt (Nat.lt_succ_of_lt low)
    have out : s.heap.objs.size ∉ [(s.heap.push (set0 led)).objs.size, l] := by
      rw [Heap.size_push]
      simp only [List.mem_cons, List.not_mem_nil, or_false, not_or]
      exact ⟨Nat.ne_of_lt (Nat.lt_succ_self _), Nat.ne_of_gt low⟩
    refine take_texts ((Walks.tuple calm3 _ l far its).toS) s.heap.objs.size out xs sz (by rw [← sz]; exact room) (fun i v hv => SS.strs_at are i v (by rw [Array.getElem?_toList]; exact hv)) (its.size - 0) 0 _ (by omega) (Nat.zero_le _)
      ⟨⟨_, Heap.get?_push_size _ rfl, rfl, rfl⟩, at2.push _⟩ ?first ?last
    case first =>
      have got2 : ((s.heap.push (set0 led)).push { cls := .type "tuple_iterator", data := .fields #[.ref l, .int 0 0] }).get? s.heap.objs.size = some (set0 led) := Heap.get?_push_of_some _ got
      exact SetOf_congr ((setObjOf_fresh (knd := strKind P w) led).setOf got2 (by unfold scanBound; omega)) (fun _ => rfl) rfl
    case last =>
      intro s2 mv hS
      obtain ⟨h2, g2, d2, tk2, os2⟩ := s2
      obtain rfl : g2 = s.gens := mv.gens
      obtain rfl : d2 = s.drawn := mv.drawn
      obtain rfl : os2 = s.os := mv.os
      rw [← sz, List.take_of_length_le (Nat.le_refl _)] at hS
      show wpAny _ _ _ _ _ _
      refine wpAny_pure (wpAny_pure ⟨rfl, h2, tk2, rfl, hS, fun b o lb e => ?_⟩)
      refine mv.heap b o ?_ (Heap.get?_push_of_some _ (Heap.get?_push_of_some _ e))
      rw [Heap.size_push]
      simp only [List.mem_cons, List.not_mem_nil, or_false, not_or]
      exact ⟨Nat.ne_of_lt lb, Nat.ne_of_lt (Nat.lt_succ_of_lt lb)⟩
  · rcases r2 with e | (_ | _ | _ | r)
    · exact hr2
    · exact hr2.elim
    · exact hr2.elim
    · exact hr2.elim
    obtain ⟨rfl, h2, tk, rfl, hS, keep⟩ := hr2
    repeat (any_goals (first | assumption | wp_step))
    exact fin _ _ hS keep
end
section
variable {X : Cx}
/-- len(set(t)), t a tuple of texts -/
def tLenTexts (K : PySem.W.Frag) (ta : TE) : TE := fun σ H Q => ta σ H fun x H1 => ∃ (l : Addr) (xs : List Str), x = .ref l ∧ SqT K H1 l (xs.map V.str) ∧ xs.length ≤ 4000 ∧ Q (.int (numd xs xs.length : Nat)) H1
theorem pe_lenTexts {a : Expr} {ta : TE} {p p2 q pos : Pos} (hg : Gl X "len") (hm : X.mg "len" = none) (hg2 : Gl X "set") (hm2 : X.mg "set" = none) (ha : PE X a ta) (calm : X.calm = true := by rfl)
    (na : starEach [a] X.env = (false, eval a X.env) :: starEach [] X.env := by rfl) : PE X (.Call (.Name "len" p) [.Call (.Name "set" p2) [a] [] q] [] pos) (tLenTexts X.K ta) := by
  refine ⟨fun pins s σ H Q I h => Call_ (ld_blt I hg hm boot_len ?_)⟩
  refine PyProof.Rows.callWith_builtin1 (PyProof.Rows.args_cons (Call_ (ld_blt I hg2 hm2 boot_set ?_)) rfl) rfl rfl
  refine PyProof.Rows.callWith_type1 (PyProof.Rows.args_cons (thn (ha.run pins s σ H _ I h) fun v s1 ⟨x, H1, I1, r1, q1⟩ => PyProof.Rows.args_nil ?_) na) na rfl
  obtain ⟨l, xs, rfl, sq, le, q1⟩ := q1
  cases r1
  obtain ⟨its, r, pl, _⟩ := I1.tuple sq
  refine set_of_texts (I1.ok.hd calm) pl (by simpa using strsAre_of r) (by unfold scanBound; omega) fun h2 tk hS keep => ?_
  refine PyProof.Rows.args_nil ?_
  obtain ⟨o, es, ep, t, ho, ex, hd, _, _, _, hf, hn⟩ := hS
  have I2 : Inv X pins σ H1 { s1 with heap := h2, toks := tk } := I1.kept fun b o e => keep b o (Heap.lt_size e) e
  have nl := numd_le xs xs.length
  exact call_len_set ho ex hd hf (by rw [hn]; omega) ⟨.int (numd xs xs.length : Nat), H1, I2.tok _, ⟨_, by rw [hn]⟩, q1⟩
end
end Xs

/-! Defs and what is known of them in one word; the built-in names that are not taken. -/
namespace My
open PySem PySem.Spec PyProof.Rows L2 Gy Xl Xs Xt
/-- no name of the module's own hides a built-in one -/
structure Bn (mg : Str → Option Value) : Prop where
  len : mg "len" = none
  range : mg "range" = none
  abs : mg "abs" = none
  max : mg "max" = none
  min : mg "min" = none
  divmod : mg "divmod" = none
  isinstance : mg "isinstance" = none
  str : mg "str" = none
  int : mg "int" = none
  bool : mg "bool" = none
  tuple : mg "tuple" = none
  list : mg "list" = none
  set : mg "set" = none
  dict : mg "dict" = none
  all : mg "all" = none
  any : mg "any" = none
  repr : mg "repr" = none
  sorted : mg "sorted" = none
  enumerate : mg "enumerate" = none
  zip : mg "zip" = none
/-- a def of the top, by its name, with its promise -/
structure Fk (P : Program) (w : World) (K : PySem.W.Frag) (mg : Str → Option Value) (base : Heap) (CX : CXT) (k : Nat) (nm : Str) (ps : List Str) (sp : Sp) : Prop where
  ex : ∃ (f : Addr) (fd : FuncData), mg nm = some (.ref f) ∧ PySem.W.keepIn K (.ref f) = true ∧ Binds K fd ps [] ∧ FnOk P w K mg base CX k f fd ps sp
/-- the same where no repr is under way -/
structure Fg (P : Program) (w : World) (K : PySem.W.Frag) (mg : Str → Option Value) (base : Heap) (CX : CXT) (k : Nat) (nm : Str) (ps : List Str) (sp : Sp) : Prop where
  ex : ∃ (f : Addr) (fd : FuncData), mg nm = some (.ref f) ∧ PySem.W.keepIn K (.ref f) = true ∧ Binds K fd ps [] ∧ FnG P w K mg base CX k f fd ps sp
section
variable {P : Program} {w : World} {K : PySem.W.Frag} {mg : Str → Option Value} {base : Heap} {CX : CXT} {k : Nat} {nm : Str} {ps : List Str} {sp : Sp}
theorem Fk.imp {sp' : Sp} (F : Fk P w K mg base CX k nm ps sp) (h : ∀ vs H Q E, sp' vs H Q E → sp vs H Q E) : Fk P w K mg base CX k nm ps sp' := by
  obtain ⟨f, fd, a, b, c, d⟩ := F.ex
  exact ⟨f, fd, a, b, c, d.imp h⟩
theorem Fk.g (F : Fk P w K mg base CX k nm ps sp) : Fg P w K mg base CX k nm ps sp := by
  obtain ⟨f, fd, a, b, c, d⟩ := F.ex
  exact ⟨f, fd, a, b, c, .of d⟩
/-- what is raised is never raised -/
theorem passN {X : Cx} : Passes (L2.CX X.prog X.w) X (fun _ _ _ => False) := by
  rintro pins σ H s e s' I ⟨a, B, H', cls, d, _, _, _, _, _, _, _, f⟩
  exact f.elim
end
section
variable {X : Cx} {CX : CXT} {k : Nat} {ps : List Str} {sp : Sp} {E : XK} {x : Str} {p pos : Pos} {e : Expr} {es : List Expr} {t : TA}
theorem pe_callF (F : Fk X.prog X.w X.K X.mg X.base CX k x ps sp) (hr : Room k X.A) (hg : Gl X x) (hx : Passes CX X E) (ha : PA X (e :: es) t)
    (hdb : (x == ("__debug__" : Str)) = false := by decide) (he : starEach (e :: es) X.env = (false, eval e X.env) :: starEach es X.env := by rfl)
    (hpl : (backTo pos (starEach es X.env)).any (·.1) = false := by rfl) : PE X (.Call (.Name x p) (e :: es) [] pos) (tCall sp [] E t) := by
  obtain ⟨f, fd, m, kp, b, G⟩ := F.ex
  exact pe_call G hr hg m kp b .nil hx ha hdb he hpl
theorem pe_callFg (F : Fg X.prog X.w X.K X.mg X.base CX k x ps sp) (gd : X.A.guards = some []) (hr : Room k X.A) (hg : Gl X x) (hx : Passes CX X E) (ha : PA X (e :: es) t)
    (hdb : (x == ("__debug__" : Str)) = false := by decide) (he : starEach (e :: es) X.env = (false, eval e X.env) :: starEach es X.env := by rfl)
    (hpl : (backTo pos (starEach es X.env)).any (·.1) = false := by rfl) : PE X (.Call (.Name x p) (e :: es) [] pos) (tG sp E t) := by
  obtain ⟨f, fd, m, kp, b, G⟩ := F.ex
  exact pe_callG G gd hr hg m kp b hx ha hdb he hpl
end
/-! ### heaps -/
theorem same_upd {H : Hp} {p : Addr} {o : HO} (h : H p = none) : Same H (upd H p o) := fun b x e => by
  rw [upd_ne (ne_of_none e h)]
  exact e
/-- a new object that is written once more: what stood before stands -/
theorem same_upd2 {H0 H : Hp} {p : Addr} {o : HO} (s : Same H0 H) (h : H0 p = none) : Same H0 (upd H p o) := fun b x e => by
  rw [upd_ne (ne_of_none e h)]
  exact s b x e
/-- all but r stands -/
def But (r : Addr) (H H' : Hp) : Prop := ∀ b o, b ≠ r → H b = some o → H' b = some o
theorem But.refl (r : Addr) (H : Hp) : But r H H := fun _ _ _ h => h
theorem But.trans {r : Addr} {H H1 H2 : Hp} (a : But r H H1) (b : But r H1 H2) : But r H H2 := fun c o n h => b c o n (a c o n h)
theorem But.of {r : Addr} {H H' : Hp} (s : Same H H') : But r H H' := fun c o _ h => s c o h
theorem But.upd {r L : Addr} {H H' : Hp} {o : HO} (h : But r H H') (n : H L = none) : But r H (L2.upd H' L o) := fun c u nc e => by
  rw [upd_ne (ne_of_none e n)]
  exact h c u nc e
theorem small200 {n : Nat} (h : n ≤ 10000) : n < sizeLine := Nat.lt_of_le_of_lt h (by decide)
theorem le200 {n : Nat} (h : n ≤ 10000) : n ≤ sizeLine := Nat.le_of_lt (small200 h)
/-- an item of a list of texts, by a number below its length -/
theorem at_in {α : Type} {xs : List α} {d : Int} (h0 : 0 ≤ d) (h1 : d < (xs.length : Int)) : ∃ v, atI xs d = some v ∧ v ∈ xs := by
  obtain ⟨j, rfl⟩ := Int.eq_ofNat_of_zero_le h0
  have hj : j < xs.length := by omega
  exact ⟨xs[j], atI_nat (List.getElem?_eq_getElem hj), List.getElem_mem hj⟩
theorem fun_g0 {P : Program} {w : World} {K : PySem.W.Frag} {mg : Str → Option Value} {base : Heap} {k : Nat} {f : Addr} {fd : FuncData} {ps N : List Str} {sp : Sp} {x qual : Str} {st : Stmt} (F : Fun K x qual st f fd) (S : FnScope N ps (defScope st)) (ln : ∀ {vs H Q E}, sp vs H Q E → vs.length = ps.length)
    (bd : ∀ (cdv : Value) (A : Around) (outer : List Env) (s : Shared) (H : Hp) (vs : List V) (Q : VK) (E : XK), A.guards = some [] →
      Room k (A.deeper (envOfC qual (defScope st) s.heap.objs.size f cdv)) → sp vs H Q E →
      ∃ t, PSs (cxOf CX0 P w K mg base N qual (defScope st) f cdv A outer s H E).nox (defBody st) t ∧
        t { nx := fun _ H' => Q .non H', rt := Q } (start N vs) H) : FnG P w K mg base CX0 (k + 1) f fd ps sp := by
  refine fun_g F S ln fun cdv A outer s H vs Q E g hr h => ?_
  obtain ⟨t, ht, hq⟩ := bd cdv A outer s H vs Q E g hr h
  exact ⟨t, ht.nox, hq⟩
theorem Room.units70 {k : Nat} {A : Around} (r : Room k A) : A.units + 70 < cLine := by
  have := r.un
  omega
theorem all_true {n : Nat} : ((List.replicate n true).all id) = true := by
  induction n with
  | zero => rfl
  | succ n ih => rw [List.replicate_succ, List.all_cons, ih]; rfl
end My

namespace My
open PySem PySem.Spec PyProof.Rows L2
def top (i : Nat) : Stmt := PySem.Challenge.pw_relinktree_k41_whole_free_hosts_flood.main.body.getD i (.Pass ⟨0, 0, 0, 0⟩)
abbrev s_wall : Stmt := top 0
theorem sc_wall : FnScope ["k"] ["k"] (defScope s_wall) := ⟨rfl, rfl, rfl, by decide +kernel, rfl, by decide +kernel, by decide +kernel⟩
abbrev s_is_host_name : Stmt := top 17
theorem sc_is_host_name : FnScope ["value"] ["value"] (defScope s_is_host_name) := ⟨rfl, rfl, rfl, by decide +kernel, rfl, by decide +kernel, by decide +kernel⟩
abbrev s_is_word : Stmt := top 18
theorem sc_is_word : FnScope ["value"] ["value"] (defScope s_is_word) := ⟨rfl, rfl, rfl, by decide +kernel, rfl, by decide +kernel, by decide +kernel⟩
abbrev s_is_text_of : Stmt := top 19
theorem sc_is_text_of : FnScope ["value", "characters", "longest", "character"] ["value", "characters", "longest"] (defScope s_is_text_of) := ⟨rfl, rfl, rfl, by decide +kernel, rfl, by decide +kernel, by decide +kernel⟩
abbrev s_is_integer_from : Stmt := top 21
theorem sc_is_integer_from : FnScope ["value", "least"] ["value", "least"] (defScope s_is_integer_from) := ⟨rfl, rfl, rfl, by decide +kernel, rfl, by decide +kernel, by decide +kernel⟩
abbrev s_is_index : Stmt := top 22
theorem sc_is_index : FnScope ["value", "size"] ["value", "size"] (defScope s_is_index) := ⟨rfl, rfl, rfl, by decide +kernel, rfl, by decide +kernel, by decide +kernel⟩
abbrev s_is_relink : Stmt := top 25
theorem sc_is_relink : FnScope ["value", "path", "cut"] ["value"] (defScope s_is_relink) := ⟨rfl, rfl, rfl, by decide +kernel, rfl, by decide +kernel, by decide +kernel⟩
abbrev s_is_relink_path : Stmt := top 26
theorem sc_is_relink_path : FnScope ["value", "host"] ["value"] (defScope s_is_relink_path) := ⟨rfl, rfl, rfl, by decide +kernel, rfl, by decide +kernel, by decide +kernel⟩
abbrev s_is_cut_of : Stmt := top 27
theorem sc_is_cut_of : FnScope ["path", "value"] ["path", "value"] (defScope s_is_cut_of) := ⟨rfl, rfl, rfl, by decide +kernel, rfl, by decide +kernel, by decide +kernel⟩
abbrev s_check_relink : Stmt := top 28
theorem sc_check_relink : FnScope ["value"] ["value"] (defScope s_check_relink) := ⟨rfl, rfl, rfl, by decide +kernel, rfl, by decide +kernel, by decide +kernel⟩
abbrev s_position : Stmt := top 29
theorem sc_position : FnScope ["relink", "host", "path"] ["relink", "host"] (defScope s_position) := ⟨rfl, rfl, rfl, by decide +kernel, rfl, by decide +kernel, by decide +kernel⟩
abbrev s_is_item : Stmt := top 35
theorem sc_is_item : FnScope ["value", "parts"] ["value"] (defScope s_is_item) := ⟨rfl, rfl, rfl, by decide +kernel, rfl, by decide +kernel, by decide +kernel⟩
abbrev s_are_message_parts : Stmt := top 36
theorem sc_are_message_parts : FnScope ["parts", "writer", "word", "bit"] ["parts"] (defScope s_are_message_parts) := ⟨rfl, rfl, rfl, by decide +kernel, rfl, by decide +kernel, by decide +kernel⟩
abbrev s_is_control_kind : Stmt := top 37
theorem sc_is_control_kind : FnScope ["value"] ["value"] (defScope s_is_control_kind) := ⟨rfl, rfl, rfl, by decide +kernel, rfl, by decide +kernel, by decide +kernel⟩
abbrev s_check_item : Stmt := top 38
theorem sc_check_item : FnScope ["value"] ["value"] (defScope s_check_item) := ⟨rfl, rfl, rfl, by decide +kernel, rfl, by decide +kernel, by decide +kernel⟩
abbrev s_forward_bit : Stmt := top 40
theorem sc_forward_bit : FnScope ["relink", "host", "phase", "source", "goal", "bit", "at", "path", "cut", "is_fresh", "outwards"] ["relink", "host", "phase", "source", "goal", "bit"] (defScope s_forward_bit) := ⟨rfl, rfl, rfl, by decide +kernel, rfl, by decide +kernel, by decide +kernel⟩
abbrev s_end_bit : Stmt := top 41
theorem sc_end_bit : FnScope ["is_over_new_link", "may_cross"] ["is_over_new_link", "may_cross"] (defScope s_end_bit) := ⟨rfl, rfl, rfl, by decide +kernel, rfl, by decide +kernel, by decide +kernel⟩
abbrev s_forwards : Stmt := top 42
theorem sc_forwards : FnScope ["links", "source", "bit", "relink", "host", "phase", "goals", "bits", "goal", "sent"] ["links", "source", "bit", "relink", "host", "phase"] (defScope s_forwards) := ⟨rfl, rfl, rfl, by decide +kernel, rfl, by decide +kernel, by decide +kernel⟩
abbrev s_control_step : Stmt := top 43
theorem sc_control_step : FnScope ["relink", "host", "kind", "at", "step"] ["relink", "host", "kind"] (defScope s_control_step) := ⟨rfl, rfl, rfl, by decide +kernel, rfl, by decide +kernel, by decide +kernel⟩
abbrev s_is_received : Stmt := top 44
theorem sc_is_received : FnScope ["relink", "at", "kind", "path", "cut"] ["relink", "at", "kind"] (defScope s_is_received) := ⟨rfl, rfl, rfl, by decide +kernel, rfl, by decide +kernel, by decide +kernel⟩
abbrev s_ask_step : Stmt := top 45
theorem sc_ask_step : FnScope ["relink", "at", "path"] ["relink", "at"] (defScope s_ask_step) := ⟨rfl, rfl, rfl, by decide +kernel, rfl, by decide +kernel, by decide +kernel⟩
abbrev s_no_step : Stmt := top 46
theorem sc_no_step : FnScope ["relink", "at"] ["relink", "at"] (defScope s_no_step) := ⟨rfl, rfl, rfl, by decide +kernel, rfl, by decide +kernel, by decide +kernel⟩
abbrev s_yes_step : Stmt := top 47
theorem sc_yes_step : FnScope ["relink", "at", "path", "cut", "phase"] ["relink", "at"] (defScope s_yes_step) := ⟨rfl, rfl, rfl, by decide +kernel, rfl, by decide +kernel, by decide +kernel⟩
abbrev s_first_yes_step : Stmt := top 48
theorem sc_first_yes_step : FnScope ["relink", "path", "cut", "sends"] ["relink"] (defScope s_first_yes_step) := ⟨rfl, rfl, rfl, by decide +kernel, rfl, by decide +kernel, by decide +kernel⟩
abbrev s_go_step : Stmt := top 49
theorem sc_go_step : FnScope ["relink", "at", "path", "cut", "sends"] ["relink", "at"] (defScope s_go_step) := ⟨rfl, rfl, rfl, by decide +kernel, rfl, by decide +kernel, by decide +kernel⟩
abbrev s_back_step : Stmt := top 50
theorem sc_back_step : FnScope ["relink", "at"] ["relink", "at"] (defScope s_back_step) := ⟨rfl, rfl, rfl, by decide +kernel, rfl, by decide +kernel, by decide +kernel⟩
abbrev s_link_cut_behind : Stmt := top 51
theorem sc_link_cut_behind : FnScope ["relink", "at", "path", "cut"] ["relink", "at"] (defScope s_link_cut_behind) := ⟨rfl, rfl, rfl, by decide +kernel, rfl, by decide +kernel, by decide +kernel⟩
abbrev s_law_pot : Stmt := top 56
theorem sc_law_pot : FnScope ["_law_script", "_law_k", "_law_cell"] ["_law_script", "_law_k"] (defScope s_law_pot) := ⟨rfl, rfl, rfl, by decide +kernel, rfl, by decide +kernel, by decide +kernel⟩
abbrev s_law_draw : Stmt := top 57
theorem sc_law_draw : FnScope ["_law_pot_here", "_law_count", "_law_digit"] ["_law_pot_here", "_law_count"] (defScope s_law_draw) := ⟨rfl, rfl, rfl, by decide +kernel, rfl, by decide +kernel, by decide +kernel⟩
abbrev s_law_choose : Stmt := top 58
theorem sc_law_choose : FnScope ["_law_pot_here", "_law_values"] ["_law_pot_here", "_law_values"] (defScope s_law_choose) := ⟨rfl, rfl, rfl, by decide +kernel, rfl, by decide +kernel, by decide +kernel⟩
abbrev s_law_name : Stmt := top 59
theorem sc_law_name : FnScope ["_law_pot_here", "_law_used", "_law_letters", "_law_size", "_law_word", "_law_choices", "_law_k", "_law_letter", "_law_choice"] ["_law_pot_here", "_law_used"] (defScope s_law_name) := ⟨rfl, rfl, rfl, by decide +kernel, rfl, by decide +kernel, by decide +kernel⟩
abbrev s_law_tree : Stmt := top 60
theorem sc_law_tree : FnScope ["_law_pot_here", "_law_least", "_law_most", "_law_hosts", "_law_pairs", "_law_k", "_law_parent"] ["_law_pot_here", "_law_least", "_law_most"] (defScope s_law_tree) := ⟨rfl, rfl, rfl, by decide +kernel, rfl, by decide +kernel, by decide +kernel⟩
abbrev s_law_near : Stmt := top 61
theorem sc_law_near : FnScope ["_law_pairs", "_law_host", "_law_found", "_law_one", "_law_other"] ["_law_pairs", "_law_host"] (defScope s_law_near) := ⟨rfl, rfl, rfl, by decide +kernel, rfl, by decide +kernel, by decide +kernel⟩
abbrev s_law_new : Stmt := top 62
theorem sc_law_new : FnScope ["_law_name_here", "_law_linked_here", "_law_logged", "_law_found"] ["_law_name_here", "_law_linked_here", "_law_logged"] (defScope s_law_new) := ⟨rfl, rfl, rfl, by decide +kernel, rfl, by decide +kernel, by decide +kernel⟩
abbrev s_law_awaited : Stmt := top 63
theorem sc_law_awaited : FnScope ["_law_model", "_law_path"] ["_law_model"] (defScope s_law_awaited) := ⟨rfl, rfl, rfl, by decide +kernel, rfl, by decide +kernel, by decide +kernel⟩
abbrev s_law_bit : Stmt := top 64
theorem sc_law_bit : FnScope ["_law_model", "_law_source", "_law_goal", "_law_bit_here", "_law_path", "_law_cut", "_law_place", "_law_last", "_law_there", "_law_is_new"] ["_law_model", "_law_source", "_law_goal", "_law_bit_here"] (defScope s_law_bit) := ⟨rfl, rfl, rfl, by decide +kernel, rfl, by decide +kernel, by decide +kernel⟩
abbrev s_law_spread : Stmt := top 65
theorem sc_law_spread : FnScope ["_law_model", "_law_message", "_law_source", "_law_bit_here", "_law_found", "_law_goal", "_law_its_bit"] ["_law_model", "_law_message", "_law_source", "_law_bit_here"] (defScope s_law_spread) := ⟨rfl, rfl, rfl, by decide +kernel, rfl, by decide +kernel, by decide +kernel⟩
abbrev s_law_freed : Stmt := top 66
theorem sc_law_freed : FnScope ["_law_model", "_law_awaited_here", "_law_items", "_law_found", "_law_item"] ["_law_model"] (defScope s_law_freed) := ⟨rfl, rfl, rfl, by decide +kernel, rfl, by decide +kernel, by decide +kernel⟩
abbrev s_law_unlinked : Stmt := top 67
theorem sc_law_unlinked : FnScope ["_law_model", "_law_other", "_law_link"] ["_law_model", "_law_other"] (defScope s_law_unlinked) := ⟨rfl, rfl, rfl, by decide +kernel, rfl, by decide +kernel, by decide +kernel⟩
abbrev s_law_linked : Stmt := top 68
theorem sc_law_linked : FnScope ["_law_model", "_law_other"] ["_law_model", "_law_other"] (defScope s_law_linked) := ⟨rfl, rfl, rfl, by decide +kernel, rfl, by decide +kernel, by decide +kernel⟩
abbrev s_law_asked : Stmt := top 69
theorem sc_law_asked : FnScope ["_law_model", "_law_source", "_law_item", "_law_path", "_law_cut", "_law_place", "_law_last"] ["_law_model", "_law_source", "_law_item"] (defScope s_law_asked) := ⟨rfl, rfl, rfl, by decide +kernel, rfl, by decide +kernel, by decide +kernel⟩
abbrev s_law_finished : Stmt := top 70
theorem sc_law_finished : FnScope ["_law_model", "_law_outcome"] ["_law_model", "_law_outcome"] (defScope s_law_finished) := ⟨rfl, rfl, rfl, by decide +kernel, rfl, by decide +kernel, by decide +kernel⟩
abbrev s_law_refused : Stmt := top 71
theorem sc_law_refused : FnScope ["_law_model", "_law_path", "_law_cut", "_law_place"] ["_law_model"] (defScope s_law_refused) := ⟨rfl, rfl, rfl, by decide +kernel, rfl, by decide +kernel, by decide +kernel⟩
abbrev s_law_agreed : Stmt := top 72
theorem sc_law_agreed : FnScope ["_law_model", "_law_item", "_law_path", "_law_cut", "_law_place", "_law_found"] ["_law_model", "_law_item"] (defScope s_law_agreed) := ⟨rfl, rfl, rfl, by decide +kernel, rfl, by decide +kernel, by decide +kernel⟩
abbrev s_law_gone_on : Stmt := top 73
theorem sc_law_gone_on : FnScope ["_law_model", "_law_item", "_law_path", "_law_cut", "_law_place", "_law_host"] ["_law_model", "_law_item"] (defScope s_law_gone_on) := ⟨rfl, rfl, rfl, by decide +kernel, rfl, by decide +kernel, by decide +kernel⟩
abbrev s_law_received : Stmt := top 74
theorem sc_law_received : FnScope ["_law_model", "_law_source", "_law_item", "_law_place", "_law_path"] ["_law_model", "_law_source", "_law_item"] (defScope s_law_received) := ⟨rfl, rfl, rfl, by decide +kernel, rfl, by decide +kernel, by decide +kernel⟩
abbrev s_law_shown : Stmt := top 75
theorem sc_law_shown : FnScope ["_law_host"] ["_law_host"] (defScope s_law_shown) := ⟨rfl, rfl, rfl, by decide +kernel, rfl, by decide +kernel, by decide +kernel⟩
abbrev s_law_agrees : Stmt := top 76
theorem sc_law_agrees : FnScope ["_law_host", "_law_model", "_law_keys", "_law_key"] ["_law_host", "_law_model"] (defScope s_law_agrees) := ⟨rfl, rfl, rfl, by decide +kernel, rfl, by decide +kernel, by decide +kernel⟩
abbrev s_law_world : Stmt := top 77
theorem sc_law_world : FnScope ["_law_hosts", "_law_pairs", "_law_found", "_law_name_here", "_law_near_here"] ["_law_hosts", "_law_pairs"] (defScope s_law_world) := ⟨rfl, rfl, rfl, by decide +kernel, rfl, by decide +kernel, by decide +kernel⟩
abbrev s_law_posted : Stmt := top 78
theorem sc_law_posted : FnScope ["_law_world_here", "_law_source", "_law_sends", "_law_goal", "_law_item"] ["_law_world_here", "_law_source", "_law_sends"] (defScope s_law_posted) := ⟨rfl, rfl, rfl, by decide +kernel, rfl, by decide +kernel, by decide +kernel⟩
abbrev s_law_busy : Stmt := top 79
theorem sc_law_busy : FnScope ["_law_world_here", "_law_pair", "_law_items"] ["_law_world_here"] (defScope s_law_busy) := ⟨rfl, rfl, rfl, by decide +kernel, rfl, by decide +kernel, by decide +kernel⟩
abbrev s_law_acted : Stmt := top 80
theorem sc_law_acted : FnScope ["_law_world_here", "_law_name_here", "_law_told", "_law_due"] ["_law_world_here", "_law_name_here", "_law_told", "_law_due"] (defScope s_law_acted) := ⟨rfl, rfl, rfl, by decide +kernel, rfl, by decide +kernel, by decide +kernel⟩
abbrev s_law_delivered : Stmt := top 81
theorem sc_law_delivered : FnScope ["_law_world_here", "_law_pair", "_law_source", "_law_goal", "_law_item", "_law_told"] ["_law_world_here", "_law_pair"] (defScope s_law_delivered) := ⟨rfl, rfl, rfl, by decide +kernel, rfl, by decide +kernel, by decide +kernel⟩
abbrev s_law_wrote : Stmt := top 82
theorem sc_law_wrote : FnScope ["_law_world_here", "_law_name_here", "_law_word", "_law_told"] ["_law_world_here", "_law_name_here", "_law_word"] (defScope s_law_wrote) := ⟨rfl, rfl, rfl, by decide +kernel, rfl, by decide +kernel, by decide +kernel⟩
abbrev s_law_at_rest : Stmt := top 83
theorem sc_law_at_rest : FnScope ["_law_pot_here", "_law_world_here", "_law_busy_here"] ["_law_pot_here", "_law_world_here"] (defScope s_law_at_rest) := ⟨rfl, rfl, rfl, by decide +kernel, rfl, by decide +kernel, by decide +kernel⟩
abbrev s_law_noted : Stmt := top 84
theorem sc_law_noted : FnScope ["_law_world_here", "_law_pasts", "_law_name_here", "_law_word"] ["_law_world_here", "_law_pasts", "_law_name_here", "_law_word"] (defScope s_law_noted) := ⟨rfl, rfl, rfl, by decide +kernel, rfl, by decide +kernel, by decide +kernel⟩
abbrev s_law_causal : Stmt := top 85
theorem sc_law_causal : FnScope ["_law_world_here", "_law_pasts", "_law_host", "_law_seen", "_law_message", "_law_earlier"] ["_law_world_here", "_law_pasts"] (defScope s_law_causal) := ⟨rfl, rfl, rfl, by decide +kernel, rfl, by decide +kernel, by decide +kernel⟩
abbrev s_law_joined : Stmt := top 86
theorem sc_law_joined : FnScope ["_law_pot_here", "_law_world_here", "_law_pairs", "_law_name_here", "_law_at", "_law_host", "_law_model", "_law_told"] ["_law_pot_here", "_law_world_here", "_law_pairs"] (defScope s_law_joined) := ⟨rfl, rfl, rfl, by decide +kernel, rfl, by decide +kernel, by decide +kernel⟩
abbrev s_law_step : Stmt := top 87
theorem sc_law_step : FnScope ["_law_pot_here", "_law_world_here", "_law_pairs", "_law_pasts", "_law_way", "_law_busy_here"] ["_law_pot_here", "_law_world_here", "_law_pairs", "_law_pasts"] (defScope s_law_step) := ⟨rfl, rfl, rfl, by decide +kernel, rfl, by decide +kernel, by decide +kernel⟩
abbrev s_law_tree_of : Stmt := top 88
theorem sc_law_tree_of : FnScope ["_law_world_here", "_law_found", "_law_name_here", "_law_host", "_law_other"] ["_law_world_here"] (defScope s_law_tree_of) := ⟨rfl, rfl, rfl, by decide +kernel, rfl, by decide +kernel, by decide +kernel⟩
abbrev s_law_end_right : Stmt := top 89
theorem sc_law_end_right : FnScope ["_law_world_here", "_law_words", "_law_pairs", "_law_host", "_law_pair"] ["_law_world_here", "_law_words", "_law_pairs"] (defScope s_law_end_right) := ⟨rfl, rfl, rfl, by decide +kernel, rfl, by decide +kernel, by decide +kernel⟩
abbrev s_law : Stmt := top 90
theorem sc_law : FnScope ["_law_script", "_law_k", "_law_pot_here", "_law_hosts", "_law_pairs", "_law_world_here", "_law_pasts", "_law_turn"] ["_law_script"] (defScope s_law) := ⟨rfl, rfl, rfl, by decide +kernel, rfl, by decide +kernel, by decide +kernel⟩
abbrev m_init : Stmt := inClass (top 54) 0
theorem scm_init : FnScope ["self", "name", "links", "log"] ["self", "name", "links", "log"] (defScope m_init) := ⟨rfl, rfl, rfl, by decide +kernel, rfl, by decide +kernel, by decide +kernel⟩
abbrev m_eq : Stmt := inClass (top 54) 1
theorem scm_eq : FnScope ["self", "other"] ["self", "other"] (defScope m_eq) := ⟨rfl, rfl, rfl, by decide +kernel, rfl, by decide +kernel, by decide +kernel⟩
abbrev m_repr : Stmt := inClass (top 54) 2
theorem scm_repr : FnScope ["self"] ["self"] (defScope m_repr) := ⟨rfl, rfl, rfl, by decide +kernel, rfl, by decide +kernel, by decide +kernel⟩
abbrev m_name : Stmt := inClass (top 54) 3
theorem scm_name : FnScope ["self"] ["self"] (defScope m_name) := ⟨rfl, rfl, rfl, by decide +kernel, rfl, by decide +kernel, by decide +kernel⟩
abbrev m_log : Stmt := inClass (top 54) 4
theorem scm_log : FnScope ["self"] ["self"] (defScope m_log) := ⟨rfl, rfl, rfl, by decide +kernel, rfl, by decide +kernel, by decide +kernel⟩
abbrev m_links : Stmt := inClass (top 54) 5
theorem scm_links : FnScope ["self"] ["self"] (defScope m_links) := ⟨rfl, rfl, rfl, by decide +kernel, rfl, by decide +kernel, by decide +kernel⟩
abbrev m_answers : Stmt := inClass (top 54) 6
theorem scm_answers : FnScope ["self"] ["self"] (defScope m_answers) := ⟨rfl, rfl, rfl, by decide +kernel, rfl, by decide +kernel, by decide +kernel⟩
abbrev m_relink : Stmt := inClass (top 54) 7
theorem scm_relink : FnScope ["self"] ["self"] (defScope m_relink) := ⟨rfl, rfl, rfl, by decide +kernel, rfl, by decide +kernel, by decide +kernel⟩
abbrev m_phase : Stmt := inClass (top 54) 8
theorem scm_phase : FnScope ["self"] ["self"] (defScope m_phase) := ⟨rfl, rfl, rfl, by decide +kernel, rfl, by decide +kernel, by decide +kernel⟩
abbrev m_waits_for : Stmt := inClass (top 54) 9
theorem scm_waits_for : FnScope ["self", "path"] ["self"] (defScope m_waits_for) := ⟨rfl, rfl, rfl, by decide +kernel, rfl, by decide +kernel, by decide +kernel⟩
abbrev m_queue : Stmt := inClass (top 54) 10
theorem scm_queue : FnScope ["self"] ["self"] (defScope m_queue) := ⟨rfl, rfl, rfl, by decide +kernel, rfl, by decide +kernel, by decide +kernel⟩
abbrev m_write : Stmt := inClass (top 54) 11
theorem scm_write : FnScope ["self", "word"] ["self", "word"] (defScope m_write) := ⟨rfl, rfl, rfl, by decide +kernel, rfl, by decide +kernel, by decide +kernel⟩
abbrev m_ask : Stmt := inClass (top 54) 12
theorem scm_ask : FnScope ["self", "path", "cut", "relink"] ["self", "path", "cut"] (defScope m_ask) := ⟨rfl, rfl, rfl, by decide +kernel, rfl, by decide +kernel, by decide +kernel⟩
abbrev m_receive : Stmt := inClass (top 54) 13
theorem scm_receive : FnScope ["self", "source", "item"] ["self", "source", "item"] (defScope m_receive) := ⟨rfl, rfl, rfl, by decide +kernel, rfl, by decide +kernel, by decide +kernel⟩
abbrev m_add_link : Stmt := inClass (top 54) 14
theorem scm_add_link : FnScope ["self", "other"] ["self", "other"] (defScope m_add_link) := ⟨rfl, rfl, rfl, by decide +kernel, rfl, by decide +kernel, by decide +kernel⟩
abbrev m_check_free : Stmt := inClass (top 54) 17
theorem scm_check_free : FnScope ["self"] ["self"] (defScope m_check_free) := ⟨rfl, rfl, rfl, by decide +kernel, rfl, by decide +kernel, by decide +kernel⟩
abbrev m_join_to : Stmt := inClass (top 54) 18
theorem scm_join_to : FnScope ["self", "other"] ["self", "other"] (defScope m_join_to) := ⟨rfl, rfl, rfl, by decide +kernel, rfl, by decide +kernel, by decide +kernel⟩
abbrev m_part_from : Stmt := inClass (top 54) 19
theorem scm_part_from : FnScope ["self", "other", "link"] ["self", "other"] (defScope m_part_from) := ⟨rfl, rfl, rfl, by decide +kernel, rfl, by decide +kernel, by decide +kernel⟩
abbrev m_log_and_forward : Stmt := inClass (top 54) 20
theorem scm_log_and_forward : FnScope ["self", "writer", "word", "source", "bit", "goals", "goal", "sent"] ["self", "writer", "word", "source", "bit"] (defScope m_log_and_forward) := ⟨rfl, rfl, rfl, by decide +kernel, rfl, by decide +kernel, by decide +kernel⟩
abbrev m_accept : Stmt := inClass (top 54) 21
theorem scm_accept : FnScope ["self", "source", "item", "kind", "path", "cut"] ["self", "source", "item"] (defScope m_accept) := ⟨rfl, rfl, rfl, by decide +kernel, rfl, by decide +kernel, by decide +kernel⟩
abbrev m_accept_bye : Stmt := inClass (top 54) 22
theorem scm_accept_bye : FnScope ["self", "source"] ["self", "source"] (defScope m_accept_bye) := ⟨rfl, rfl, rfl, by decide +kernel, rfl, by decide +kernel, by decide +kernel⟩
abbrev m_can_join : Stmt := inClass (top 54) 23
theorem scm_can_join : FnScope ["self", "relink"] ["self", "relink"] (defScope m_can_join) := ⟨rfl, rfl, rfl, by decide +kernel, rfl, by decide +kernel, by decide +kernel⟩
abbrev m_next_host : Stmt := inClass (top 54) 24
theorem scm_next_host : FnScope ["self", "relink"] ["self", "relink"] (defScope m_next_host) := ⟨rfl, rfl, rfl, by decide +kernel, rfl, by decide +kernel, by decide +kernel⟩
abbrev m_act : Stmt := inClass (top 54) 25
theorem scm_act : FnScope ["self", "relink", "kind", "steps", "phase", "added", "removed", "outcome", "awaited", "sends", "goal", "step"] ["self", "relink", "kind"] (defScope m_act) := ⟨rfl, rfl, rfl, by decide +kernel, rfl, by decide +kernel, by decide +kernel⟩
abbrev m_process_queue : Stmt := inClass (top 54) 26
theorem scm_process_queue : FnScope ["self", "awaited", "items", "sends", "item"] ["self", "awaited"] (defScope m_process_queue) := ⟨rfl, rfl, rfl, by decide +kernel, rfl, by decide +kernel, by decide +kernel⟩
end My

namespace My
open PySem PySem.Spec PyProof.Rows L2 Gy Xl Xs Xt
/-! ### the law's numbers: the pot, a draw, a pick -/
/-- the list of two numbers that is drawn from -/
def Rng (H : Hp) (r : Addr) : Prop := ∃ x y : Int, H r = some (.lst [.int x, .int y]) ∧ 0 ≤ x ∧ 0 ≤ y ∧ y < 1099511627776
theorem Rng.ne {H : Hp} {r l : Addr} (h : Rng H r) (hl : H l = none) : l ≠ r := fun z => by
  obtain ⟨x, y, e, _⟩ := h
  rw [← z, hl] at e
  cases e
theorem Rng.upd {H : Hp} {r l : Addr} {o : HO} (h : Rng H r) (hl : H l = none) : Rng (upd H l o) r := by
  obtain ⟨x, y, e, h2⟩ := id h
  exact ⟨x, y, by rw [upd_ne (h.ne hl).symm]; exact e, h2⟩
theorem Rng.upd2 {H : Hp} {r l : Addr} {o : HO} (h : Rng H r) (hl : l ≠ r) : Rng (L2.upd H l o) r := by
  obtain ⟨x, y, e, h2⟩ := id h
  exact ⟨x, y, by rw [upd_ne hl.symm]; exact e, h2⟩
theorem Rng.same {H H' : Hp} {r : Addr} (h : Rng H r) (s : Same H H') : Rng H' r := by
  obtain ⟨x, y, e, h2⟩ := h
  exact ⟨x, y, s _ _ e, h2⟩
section
variable {P : Program} {w : World} {K : PySem.W.Frag} {mg : Str → Option Value} {base : Heap}
def spPot (K : PySem.W.Frag) : Sp := fun vs H Q _ => ∃ (a : Addr) (ns : List Int) (k : Nat), vs = [.ref a, .int (k : Int)] ∧ SqL K H a (ns.map V.int) ∧ k ≤ 100 ∧
  ∀ H' p, Same H H' → H p = none → Rng H' p → Q (.ref p) H'
theorem max_nn (j : Int) : 0 ≤ (if j > 0 then j else 0) := by
  split <;> omega
theorem y_lo (z : Int) : 0 ≤ z % 2147483647 := by omega
theorem y_hi (z : Int) : z % 2147483647 < 1099511627776 := by omega
theorem ok_pot {f : Addr} {fd : FuncData} (F : Fun K "_law_pot" "_law_pot" s_law_pot f fd) (Y : Bn mg) : FnOk P w K mg base CX0 1 f fd ["_law_script", "_law_k"] (spPot K) := by
  refine F.ok sc_law_pot (fun vs H Q E h => ?_) (fun cdv A outer s H vs Q E hr h => ?_)
  · obtain ⟨a, ns, k, rfl, _⟩ := h
    rfl
  · obtain ⟨a, ns, k, rfl, hS, hk, q⟩ := h
    refine ⟨_, (pss_cons (ps_set (i := 2) sc_law_pot.nd rfl (.inl rfl) (pe_ifExp (pt_cmpR op_lt (pv 1) (pe_callB call_len_seq (by rfl) Y.len PySem.boot_len (pa_cons (pv 0) pa_nil)) (nomark _)) (pe_callB call_abs (by rfl) Y.abs (by decide +kernel) (pa_cons (pe_ix ix_list (pv 0) (pv 1) (fun _ _ => rfl)) pa_nil)) pe_int))
 (pss_one (ps_ret (pe_lst (pa_cons (pe_callB (call_max2 rfl) (by rfl) Y.max (by decide +kernel) (pa_cons pe_int (pa_cons (pe_op op_sub (pv 2) (pe_op op_pow pe_int pe_int)) pa_nil))) (pa_cons (pe_op op_mod (pe_op op_add (pe_op op_add (pe_op op_mul (pe_op op_mod (pv 2) pe_int) pe_int) (pe_op op_mul pe_int (pv 1))) pe_int) pe_int) pa_nil)))))), ?_⟩
    refine ⟨_, rfl, _, rfl, a, _, rfl, .inl hS, _, _, rfl, rfl, _, rfl, ite2 (fun c1 => ?A) (fun c1 => ?B)⟩
    case' A =>
      have hk2 : k < ns.length := by
        have := of_decide_eq_true c1
        rw [List.length_map] at this
        omega
      refine ⟨_, rfl, _, rfl, a, _, _, .int ns[k], rfl, rfl, hS, atI_nat (j := k) (by rw [List.getElem?_map, List.getElem?_eq_getElem hk2]; rfl), ?_⟩
      refine ⟨_, rfl, ?_⟩
    all_goals
      refine ⟨_, rfl, 10, 18, rfl, rfl, ⟨by decide, by decide, by decide⟩, _, _, rfl, rfl, 0, _, rfl, ?_⟩
      refine ⟨_, rfl, _, _, rfl, rfl, (by decide : (0 : Int) < 2147483629), _, 44131, rfl, rfl, .inr ⟨by decide, by decide⟩, _, rfl, 7013, _, rfl, rfl, .inl ⟨by decide, by decide⟩, _, _, rfl, rfl, _, _, rfl, rfl, _, _, rfl, rfl, (by decide : (0 : Int) < 2147483647), ?_⟩
      refine ⟨(by show 2 ≤ sizeLine; decide), fun p hp => ?_⟩
      exact q _ p (same_upd hp) hp ⟨_, _, upd_same, max_nn _, y_lo _, y_hi _⟩
def spDraw : Sp := fun vs H Q _ => ∃ (r : Addr) (m : Int), vs = [.ref r, .int m] ∧ Rng H r ∧ 0 < m ∧ m < 1180591620717411303424 ∧
  ∀ H' d, But r H H' → Rng H' r → 0 ≤ d → d < m → Q (.int d) H'
theorem lg70 {m : Int} (m0 : 0 < m) (m1 : m < 1180591620717411303424) : m.natAbs.log2 < 9000 := by
  have h : m.natAbs < 2 ^ 70 := by
    show m.natAbs < 1180591620717411303424
    omega
  exact Nat.lt_of_lt_of_le ((Nat.log2_lt (by omega)).mpr h) (by decide)
theorem ok_draw {f : Addr} {fd : FuncData} (F : Fun K "_law_draw" "_law_draw" s_law_draw f fd) (Y : Bn mg) : FnOk P w K mg base CX0 1 f fd ["_law_pot_here", "_law_count"] spDraw := by
  refine F.ok sc_law_draw (fun vs H Q E h => ?_) (fun cdv A outer s H vs Q E hr h => ?_)
  · obtain ⟨r, m, rfl, _⟩ := h
    rfl
  · obtain ⟨r, m, rfl, ⟨x, y, hR, x0, y0, y1⟩, m0, m1, q⟩ := h
    refine ⟨_, (pss_cons (ps_if (pt_cmpR op_gt (pe_ix ix_list (pv 0) pe_int (fun _ _ => rfl)) pe_int (nomark _))
 (pss_cons (ps_asg (pe_callB call_divmodW (by rfl) Y.divmod (by decide +kernel) (pa_cons (pe_ix ix_list (pv 0) pe_int (fun _ _ => rfl)) (pa_cons (pv 1) pa_nil))) (pg_tup (by rfl) (pgs_cons (pg_sub (pv 0) pe_int set_list) (pgs_cons (pg_name (i := 2) sc_law_draw.nd rfl (Or.inl rfl)) pgs_nil))))
 (pss_one (ps_ret (pv 2))))
 pss_nil)
 (pss_cons (ps_asg (pe_op op_mod (pe_op op_add (pe_op op_mul (pe_ix ix_list (pv 0) pe_int (fun _ _ => rfl)) pe_int) pe_int) pe_int) (pg_sub (pv 0) pe_int set_list))
 (pss_one (ps_ret (pe_op op_mod (pe_op op_fdiv (pe_op op_mod (pe_op op_mul (pe_ix ix_list (pv 0) pe_int (fun _ _ => rfl)) (pe_ix ix_list (pv 0) pe_int (fun _ _ => rfl))) pe_int) pe_int) (pv 1)))))), ?_⟩
    refine ⟨_, rfl, r, _, 0, .int x, rfl, rfl, SqL.of hR, atI_nat (j := 0) rfl, _, _, rfl, rfl, _, rfl, ite2 (fun c1 => ?_) (fun c1 => ?_)⟩
    · refine ⟨_, rfl, r, _, 0, .int x, rfl, rfl, SqL.of hR, atI_nat (j := 0) rfl, _, rfl, x, m, rfl, ⟨m0, PyProof.noPylong_of_log2 (lg70 m0 m1)⟩, fun p hp => ?_⟩
      have npr : r ≠ p := ne_of_none hR hp
      refine ⟨p, _, rfl, SqT.of upd_same, rfl, _, _, rfl, ?_⟩
      refine ⟨_, rfl, r, _, 0, 0, rfl, rfl, (by rw [upd_ne npr]; exact hR), rfl, ?_⟩
      refine ⟨_, _, rfl, rfl, ?_⟩
      refine ⟨_, rfl, q _ _ ?_ ⟨x / m, y, upd_same, Int.ediv_nonneg x0 (Int.le_of_lt m0), y0, y1⟩ (Int.emod_nonneg _ (by omega)) (Int.emod_lt_of_pos _ m0)⟩
      intro b o nb e
      rw [upd_ne nb, upd_ne (ne_of_none e hp)]
      exact e
    · refine ⟨_, rfl, r, _, 1, .int y, rfl, rfl, SqL.of hR, atI_nat (j := 1) rfl, y, 48271, rfl, rfl, .inl ⟨by omega, by omega⟩, _, _, rfl, rfl, _, _, rfl, rfl, (by decide : (0 : Int) < 2147483647), ?_⟩
      refine ⟨_, rfl, r, _, 1, 1, rfl, rfl, hR, rfl, ?_⟩
      have z0 := Int.emod_nonneg (y * 48271 + 30029) (by decide : (2147483647 : Int) ≠ 0)
      have z1 := Int.emod_lt_of_pos (y * 48271 + 30029) (by decide : (0 : Int) < 2147483647)
      refine ⟨_, rfl, r, _, 1, _, rfl, rfl, SqL.of upd_same, atI_nat (j := 1) rfl, _, rfl, r, _, 1, _, rfl, rfl, SqL.of upd_same, atI_nat (j := 1) rfl, _, _, rfl, rfl, .inl ⟨by omega, by omega⟩, ?_⟩
      refine ⟨_, _, rfl, rfl, (by decide : (0 : Int) < 2147483587), _, 7, rfl, rfl, ⟨by decide, by decide⟩, _, rfl, _, m, rfl, rfl, m0, ?_⟩
      refine q _ _ ?_ ⟨x, _, upd_same, x0, z0, by omega⟩ (Int.emod_nonneg _ (by omega)) (Int.emod_lt_of_pos _ m0)
      intro b o nb e
      rw [upd_ne nb]
      exact e
/-- an item of a list -/
def spCh : Sp := fun vs H Q _ => ∃ (r la : Addr) (xs : List V), vs = [.ref r, .ref la] ∧ Rng H r ∧ la ≠ r ∧ H la = some (.lst xs) ∧ 0 < xs.length ∧ xs.length ≤ 1000 ∧ ∀ H' u, But r H H' → Rng H' r → u ∈ xs → Q u H'
theorem ok_choose {f : Addr} {fd : FuncData} (F : Fun K "_law_choose" "_law_choose" s_law_choose f fd) (Y : Bn mg) (G_law_draw : Fk P w K mg base CX0 1 "_law_draw" ["_law_pot_here", "_law_count"] spDraw) :
    FnOk P w K mg base CX0 2 f fd ["_law_pot_here", "_law_values"] spCh := by
  refine F.ok sc_law_choose (fun vs H Q E h => ?_) (fun cdv A outer s H vs Q E hr h => ?_)
  · obtain ⟨r, la, xs, rfl, _⟩ := h
    rfl
  · obtain ⟨r, la, xs, rfl, R, na, ha, l0, l1, q⟩ := h
    refine ⟨_, (pss_one (ps_ret (pe_ix ix_list (pv 1) (pe_callF G_law_draw (hr.mono (by decide)) (by rfl) pass0 (pa_cons (pv 0) (pa_cons (pe_callB call_len_seq (by rfl) Y.len PySem.boot_len (pa_cons (pv 1) pa_nil)) pa_nil))) (fun _ _ => rfl)))), ?_⟩
    refine ⟨_, rfl, _, rfl, _, rfl, la, xs, rfl, .inl (SqL.of ha), ?_⟩
    refine ⟨r, (xs.length : Int), rfl, R, by omega, by omega, fun H1 d b1 R1 d0 d1 => ?_⟩
    obtain ⟨c, hc, mc⟩ := at_in (xs := xs) d0 d1
    exact ⟨la, xs, d, c, rfl, rfl, SqL.of (b1 la _ na ha), hc, q _ _ b1 R1 mc⟩
end
end My

namespace My
open PySem PySem.Spec PyProof.Rows L2 Gy Xl Xs Xt
/-! ### drawn host names: texts of 1 to 8 letters, all different -/
def LET : Str := "abcdefghijklmnopqrstuvwxyz"
/-- a text of 1 to 8 letters -/
def Nm (x : Str) : Prop := 1 ≤ x.length ∧ x.length ≤ 8 ∧ ∀ c ∈ x.cps.toList, c ∈ LET.cps.toList
theorem mem_cat {a b : Str} {c : Nat} (h : c ∈ (a ++ b).cps.toList) : c ∈ a.cps.toList ∨ c ∈ b.cps.toList := by
  have e : (a ++ b).cps.toList = a.cps.toList ++ b.cps.toList := by
    show (a.cps ++ b.cps).toList = _
    rw [Array.toList_append]
  rw [e] at h
  exact List.mem_append.mp h
theorem join_in {p : Nat → Prop} : ∀ ys : List Str, (∀ y ∈ ys, ∀ c ∈ y.cps.toList, p c) → ∀ c ∈ (Str.join "" ys).cps.toList, p c
  | [], _, c, h => by
    have h' : c ∈ ([] : List Nat) := h
    cases h'
  | [y], h, c, hc => h y List.mem_cons_self c hc
  | y :: z :: r, h, c, hc => by
    have hc' : c ∈ (y ++ "" ++ Str.join "" (z :: r)).cps.toList := hc
    rcases mem_cat hc' with hc' | hc'
    · rcases mem_cat hc' with hc' | hc'
      · exact h y List.mem_cons_self c hc'
      · have h' : c ∈ ([] : List Nat) := hc'
        cases h'
    · exact join_in (z :: r) (fun u hu => h u (List.mem_cons_of_mem _ hu)) c hc'
theorem join_len : ∀ ys : List Str, (∀ y ∈ ys, y.length = 1) → (Str.join "" ys).length = ys.length
  | [], _ => rfl
  | [y], h => h y List.mem_cons_self
  | y :: z :: r, h => by
    have ih := join_len (z :: r) fun u hu => h u (List.mem_cons_of_mem _ hu)
    have hy := h y List.mem_cons_self
    show (y ++ "" ++ Str.join "" (z :: r)).length = _
    rw [strLen_append, strLen_append, ih, hy]
    show 1 + 0 + (r.length + 1) = r.length + 1 + 1
    omega
theorem sum_ones : ∀ ys : List Str, (∀ y ∈ ys, y.length = 1) → (ys.map (·.length)).sum ≤ ys.length
  | [], _ => Nat.le_refl _
  | y :: r, h => by
    have h1 := h y List.mem_cons_self
    have h2 := sum_ones r fun z hz => h z (List.mem_cons_of_mem _ hz)
    rw [List.map_cons, List.sum_cons, List.length_cons]
    omega
theorem cut_some (x : Str) (n : Nat) : cutS x none (some (n : Int)) = ⟨(x.cps.toList.take (min n x.length)).toArray⟩ := by
  unfold cutS
  rw [HT.sIx_none, HT.sIx_nat, List.drop_zero, Nat.sub_zero]
/-- the first eight signs of a name with letters behind it -/
theorem nm_cut {x y : Str} (hx : Nm x) (hy : Nm y) : Nm (cutS (x ++ y) none (some 8)) := by
  have e := cut_some (x ++ y) 8
  have l : (x ++ y).length = x.length + y.length := strLen_append x y
  have l2 : (x ++ y).cps.toList.length = (x ++ y).length := Array.length_toList
  obtain ⟨h1, h2, h3⟩ := hx
  obtain ⟨k1, k2, k3⟩ := hy
  rw [show (some 8 : Option Int) = some ((8 : Nat) : Int) from rfl, e]
  refine ⟨?_, ?_, fun c hc => ?_⟩
  · show 1 ≤ ((x ++ y).cps.toList.take (min 8 (x ++ y).length)).toArray.size
    rw [List.size_toArray, List.length_take]
    omega
  · show ((x ++ y).cps.toList.take (min 8 (x ++ y).length)).toArray.size ≤ 8
    rw [List.size_toArray, List.length_take]
    omega
  · have hc' : c ∈ (x ++ y).cps.toList.take (min 8 (x ++ y).length) := by
      simpa using hc
    rcases mem_cat (List.mem_of_mem_take hc') with z | z
    · exact h3 c z
    · exact k3 c z
/-- seven signs of a name and a letter -/
def tl (x : Str) (c : Nat) : Str := cutS x none (some 7) ++ ⟨#[c]⟩
theorem tl_cps (x : Str) (c : Nat) : (tl x c).cps.toList = x.cps.toList.take (min 7 x.length) ++ [c] := by
  unfold tl
  rw [show (some 7 : Option Int) = some ((7 : Nat) : Int) from rfl, cut_some]
  show ((x.cps.toList.take (min 7 x.length)).toArray ++ #[c]).toList = _
  rw [Array.toList_append]
theorem tl_nm {x : Str} {c : Nat} (hx : Nm x) (hc : c ∈ LET.cps.toList) : Nm (tl x c) := by
  have e := tl_cps x c
  have l : (tl x c).length = (tl x c).cps.toList.length := Array.length_toList.symm
  have l2 : x.cps.toList.length = x.length := Array.length_toList
  have l3 : (x.cps.toList.take (min 7 x.length) ++ [c]).length = min 7 x.length + 1 := by
    rw [List.length_append, List.length_take, l2]
    simp
  rw [e, l3] at l
  refine ⟨by omega, by omega, fun d hd => ?_⟩
  rw [e] at hd
  rcases List.mem_append.mp hd with z | z
  · exact hx.2.2 d (List.mem_of_mem_take z)
  · rw [List.mem_singleton.mp z]
    exact hc
theorem tl_inj (x : Str) (c d : Nat) (h : tl x c = tl x d) : c = d := by
  have e : (tl x c).cps.toList = (tl x d).cps.toList := by rw [h]
  rw [tl_cps, tl_cps] at e
  have e2 := List.append_cancel_left e
  injection e2
theorem inV_strs (z : Str) : ∀ xs : List Str, inV (.str z) (xs.map V.str) = decide (z ∈ xs)
  | [] => rfl
  | x :: xs => by
    have ih := inV_strs z xs
    unfold inV at ih ⊢
    rw [List.map_cons, List.any_cons, ih]
    show (x == z || decide (z ∈ xs)) = decide (z ∈ x :: xs)
    by_cases e : x = z
    · subst e
      simp
    · rw [beq_eq_false_iff_ne.mpr e, Bool.false_or]
      congr 1
      rw [List.mem_cons, eq_iff_iff]
      exact ⟨.inr, fun h => h.resolve_left fun u => e u.symm⟩
theorem flat_strs : ∀ xs : List Str, (xs.map V.str).all flatV = true
  | [] => rfl
  | x :: xs => by
    rw [List.map_cons, List.all_cons, flat_strs xs]
    rfl
theorem len_le_of_sub {α : Type} [BEq α] [LawfulBEq α] : ∀ {l m : List α}, l.Nodup → (∀ x ∈ l, x ∈ m) → l.length ≤ m.length
  | [], _, _, _ => Nat.zero_le _
  | x :: l, m, nd, h => by
    rw [List.nodup_cons] at nd
    have hx := h x List.mem_cons_self
    have ih := len_le_of_sub (l := l) (m := m.erase x) nd.2 fun y hy => (List.mem_erase_of_ne (fun e : y = x => nd.1 (by rw [← e]; exact hy))).mpr (h y (List.mem_cons_of_mem _ hy))
    rw [List.length_erase_of_mem hx] at ih
    have : 0 < m.length := List.length_pos_of_mem hx
    rw [List.length_cons]
    omega
theorem nd_map {α β : Type} {f : α → β} (inj : ∀ a b, f a = f b → a = b) : ∀ {l : List α}, l.Nodup → (l.map f).Nodup
  | [], _ => List.nodup_nil
  | x :: l, h => by
    rw [List.nodup_cons] at h
    rw [List.map_cons, List.nodup_cons]
    refine ⟨fun z => ?_, nd_map inj h.2⟩
    obtain ⟨y, hy, e⟩ := List.mem_map.mp z
    exact h.1 (inj _ _ e ▸ hy)
theorem nodup_snoc {α : Type} {xs : List α} {x : α} (h : xs.Nodup) (n : x ∉ xs) : (xs ++ [x]).Nodup := by
  rw [List.nodup_append]
  refine ⟨h, by simp, fun a ha b hb e => n ?_⟩
  rw [List.mem_singleton.mp hb] at e
  rw [← e]
  exact ha
/-- what is tried for a name -/
def triesOf (x : Str) : List Str := x :: LET.cps.toList.map (tl x)
theorem tries_nm {x : Str} (h : Nm x) : ∀ y ∈ triesOf x, Nm y := fun y hy => by
  rcases List.mem_cons.mp hy with rfl | hy
  · exact h
  · obtain ⟨c, hc, rfl⟩ := List.mem_map.mp hy
    exact tl_nm h hc
theorem tries_out {x : Str} {xs : List Str} (h : xs.length < 26) : ∃ z zs, (triesOf x).filter (fun y => decide (y ∉ xs)) = z :: zs := by
  cases e : (triesOf x).filter (fun y => decide (y ∉ xs)) with
  | cons z zs => exact ⟨z, zs, rfl⟩
  | nil =>
    rw [List.filter_eq_nil_iff] at e
    have nd : (LET.cps.toList.map (tl x)).Nodup := nd_map (tl_inj x) (by decide +kernel)
    have le := len_le_of_sub (m := xs) nd fun y hy => by
      have z := e y (List.mem_cons_of_mem _ hy)
      exact Decidable.of_not_not fun w => z (decide_eq_true w)
    rw [List.length_map, show LET.cps.toList.length = 26 by decide +kernel] at le
    omega
theorem dps_strs {K : PySem.W.Frag} {H : Hp} : ∀ xs : List Str, DpAll K H (xs.map V.str) (xs.map PyData.str)
  | [] => .nil
  | x :: xs => .cons (.str x) (dps_strs xs)
theorem nm_ok {x : Str} (h : Nm x) : PyData.strOk x = true := by
  unfold PyData.strOk
  rw [← Array.all_toList, List.all_eq_true]
  intro c hc
  have z : ∀ d ∈ LET.cps.toList, d < 0x110000 := by decide +kernel
  exact decide_eq_true (z c (h.2.2 c hc))
theorem lay_strs : ∀ xs : List Str, (∀ x ∈ xs, Nm x) → PyData.canLayAll0 (xs.map PyData.str) = true
  | [], _ => rfl
  | b :: r, h => by
    show (PyData.strOk b && PyData.canLayAll0 (r.map PyData.str)) = true
    rw [nm_ok (h b List.mem_cons_self), lay_strs r fun x hx => h x (List.mem_cons_of_mem _ hx)]
    rfl
theorem deep_strs : ∀ xs : List Str, PyData.depthAll (xs.map PyData.str) = 0
  | [] => rfl
  | b :: r => by
    show max 0 (PyData.depthAll (r.map PyData.str)) = 0
    rw [deep_strs r]
    rfl
theorem sh_strs (xs : List Str) (h : ∀ x ∈ xs, Nm x) : SeqAt.shaped (.list (xs.map PyData.str)) = true := by
  unfold SeqAt.shaped
  rw [show PyData.canLay0 (.list (xs.map PyData.str)) = true from lay_strs xs h, show PyData.depth (.list (xs.map PyData.str)) = 1 by show PyData.depthAll _ + 1 = 1; rw [deep_strs]]
  decide
end My

namespace My
open PySem PySem.Spec PyProof.Rows L2 Gy Xl Xs Xt
/-! ### texts of some signs -/
def allIn (cs x : Str) : Bool := x.cps.toList.all fun c => decide (c ∈ cs.cps.toList)
def textOf (v : V) (cs : Str) (n : Int) : Bool := match v with
  | .str x => decide ((1 : Int) ≤ (x.length : Int)) && decide ((x.length : Int) ≤ n) && allIn cs x
  | _ => false
/-- a value whose kind is known -/
inductive Kd (K : PySem.W.Frag) (H : Hp) : V → Prop
  | str (x : Str) (h : x.length ≤ sizeLine) : Kd K H (.str x)
  | oth {v : V} {t : String} (ty : TyX K H v (.type t)) (n : kitB t "str" = some false) (no : ∀ x, v ≠ .str x) : Kd K H v
theorem textOf_oth {v : V} (no : ∀ x, v ≠ .str x) (cs : Str) (n : Int) : textOf v cs n = false := by
  cases v with
  | str x => exact absurd rfl (no x)
  | _ => rfl

section
variable {P : Program} {w : World} {K : PySem.W.Frag} {mg : Str → Option Value} {base : Heap}
def spText (K : PySem.W.Frag) : Sp := fun vs H Q _ => ∃ (v : V) (cs : Str) (n : Int), vs = [v, .str cs, .int n] ∧ Kd K H v ∧
  ∀ H', Same H H' → Q (.bl (textOf v cs n)) H'
theorem take_succ_all {l : List Nat} {i c : Nat} (h : l[i]? = some c) (p : Nat → Bool) : (l.take (i + 1)).map p = (l.take i).map p ++ [p c] := by
  rw [List.take_add_one, h, List.map_append]
  rfl
theorem ok_text {f : Addr} {fd : FuncData} (F : Fun K "is_text_of" "is_text_of" s_is_text_of f fd) (Y : Bn mg) :
    FnOk P w K mg base CX0 1 f fd ["value", "characters", "longest"] (spText K) := by
  refine F.ok sc_is_text_of (fun vs H Q E h => ?_) (fun cdv A outer s H vs Q E hr h => ?_)
  · obtain ⟨v, cs, n, rfl, _⟩ := h
    rfl
  · obtain ⟨v, cs, n, rfl, kd, q⟩ := h
    refine ⟨_, (pss_cons (ps_if (PW.pt (pw_or (pt_not (pt_val (pe_callB call_isi (by rfl) Y.isinstance (by decide +kernel) (pa_cons (pv 0) (pa_cons (pe_bltn (v := .ty "str") (by rfl) Y.str (by decide +kernel) rfl) pa_nil))))) (pw_or1 (pt_not (pt_chain op_le op_le pe_int (pe_callB call_len_str (by rfl) Y.len PySem.boot_len (pa_cons (pv 0) pa_nil)) (pv 2))))))
 (pss_one (ps_ret pe_bl))
 pss_nil)
 (pss_one (ps_ret (pe_callB (cr_all rfl) (by rfl) Y.all (by decide +kernel) (pa_cons (pe_lc (own := [("character", 3)]) (g := gName 3) (tt := tYes) rfl sc_is_text_of.nd (pi_str (pv 0)) (blkOk_by (N := ["value", "characters", "longest", "character"]) (sc := defScope s_is_text_of) (by decide +kernel)) (fun _ _ _ _ _ => (pg_name (i := 3) sc_is_text_of.nd rfl (Or.inl rfl))) (fun _ _ _ _ _ => pts_nil) (fun _ _ _ _ _ => (pe_cmpR op_in_sign (pv 3) (pv 1) rfl))) pa_nil))))), ?_⟩
    cases kd with
    | oth ty no nos =>
      refine ⟨v, rfl, v, _, _, _, false, rfl, .ty "str", ty, kit_ty no, _, rfl, ?_⟩
      refine iteT (iteT ?_)
      rw [textOf_oth nos] at q
      exact q _ (Same.refl _)
    | str x hx =>
      refine ⟨_, rfl, _, _, _, _, true, rfl, .ty "str", .base (.str x), kit_ty (by decide +kernel), _, rfl, ?_⟩
      refine iteF ?_
      have e1 : textOf (.str x) cs n = (decide ((1 : Int) ≤ (x.length : Int)) && decide ((x.length : Int) ≤ n) && allIn cs x) := rfl
      refine ⟨_, rfl, _, rfl, hx, 1, _, rfl, rfl, _, rfl, ?_⟩
      refine ite2 (fun c1 => ?_) (fun c1 => ?_)
      · refine ⟨_, rfl, _, _, rfl, rfl, _, rfl, ?_⟩
        cases c2 : decide ((x.length : Int) ≤ n) with
        | false =>
          refine iteT ?_
          rw [c2, Bool.and_false, Bool.false_and] at e1
          rw [e1] at q
          exact q _ (Same.refl _)
        | true =>
          refine iteF ?_
          rw [c1, c2, Bool.true_and, Bool.true_and] at e1
          refine ⟨_, rfl, x, rfl, fun D hD => ?_⟩
          refine lc_it (walk_str (z := x)) (fun i H' => Same H H' ∧ H' D = some (.lst (((x.cps.toList.take i).map fun c => decide (c ∈ cs.cps.toList)).map V.bl)))
            ⟨same_upd hD, upd_same⟩ (fun _ _ _ _ => trivial) ?_ ?_
          · rintro i y H1 H2 hi ⟨sm, hL⟩ ⟨rfl, c, hc, rfl⟩
            refine ⟨rfl, ?_⟩
            dsimp only [tYes]
            refine iteT ?_
            refine ⟨_, rfl, _, rfl, c, cs, rfl, rfl, _, hL, ?_, same_upd2 sm hD, ?_⟩
            · rw [List.length_map, List.length_map, List.length_take]
              refine Nat.lt_of_le_of_lt (Nat.min_le_left _ _) (Nat.lt_of_lt_of_le hi ?_)
              exact hx
            · have hc' : x.cps.toList[i]? = some c := by rw [Array.getElem?_toList]; exact hc
              rw [upd_same, take_succ_all hc', List.map_append]
              rfl
          · rintro H1 ⟨sm, hL⟩
            refine ⟨D, _, rfl, SqL.of hL, ?_⟩
            have e2 : ((x.cps.toList.take x.cps.size).map fun c => decide (c ∈ cs.cps.toList)).all id = allIn cs x := by
              rw [List.take_of_length_le (by rw [Array.length_toList]; exact Nat.le_refl _), List.all_map]
              rfl
            rw [e1] at q
            show Q (.bl (((x.cps.toList.take x.cps.size).map fun c => decide (c ∈ cs.cps.toList)).all id)) H1
            rw [e2]
            exact q _ sm
      · refine ⟨_, rfl, ?_⟩
        refine iteT ?_
        have c1' : decide ((1 : Int) ≤ (x.length : Int)) = false := by
          cases z : decide ((1 : Int) ≤ (x.length : Int)) with
          | false => rfl
          | true => exact absurd z c1
        rw [c1', Bool.false_and, Bool.false_and] at e1
        rw [e1] at q
        exact q _ (Same.refl _)
structure TxtC (mg : Str → Option Value) : Prop where
  lt : ∃ t, mg "LETTERS" = some (.str LET t)
  ln : ∃ t, mg "LONGEST_NAME" = some (.int 8 t)
def spHost (K : PySem.W.Frag) : Sp := fun vs H Q _ => ∃ v : V, vs = [v] ∧ Kd K H v ∧ ∀ H', Same H H' → Q (.bl (textOf v LET 8)) H'
theorem ok_host {f : Addr} {fd : FuncData} (F : Fun K "is_host_name" "is_host_name" s_is_host_name f fd) (C : TxtC mg) (G_is_text_of : Fk P w K mg base CX0 1 "is_text_of" ["value", "characters", "longest"] (spText K)) :
    FnOk P w K mg base CX0 2 f fd ["value"] (spHost K) := by
  obtain ⟨t1, e1⟩ := C.lt
  obtain ⟨t2, e2⟩ := C.ln
  refine F.ok sc_is_host_name (fun vs H Q E h => ?_) (fun cdv A outer s H vs Q E hr h => ?_)
  · obtain ⟨v, rfl, _⟩ := h
    rfl
  · obtain ⟨v, rfl, kd, q⟩ := h
    refine ⟨_, (pss_one (ps_ret (pe_callF G_is_text_of (hr.mono (by decide)) (by rfl) pass0 (pa_cons (pv 0) (pa_cons (pe_glob (v := .str LET) (by rfl) e1 ⟨_, rfl⟩) (pa_cons (pe_glob (v := .int 8) (by rfl) e2 ⟨_, rfl⟩) pa_nil)))))), ?_⟩
    exact ⟨v, rfl, v, LET, 8, rfl, kd, q⟩
def DIG : Str := "0123456789"
def WSG : Str := LET ++ DIG
structure TxtW (mg : Str → Option Value) : Prop where
  dg : ∃ t, mg "DIGITS" = some (.str DIG t)
  ln : ∃ t, mg "LONGEST_WORD" = some (.int 12 t)
def spWord (K : PySem.W.Frag) : Sp := fun vs H Q _ => ∃ v : V, vs = [v] ∧ Kd K H v ∧ ∀ H', Same H H' → Q (.bl (textOf v WSG 12)) H'
theorem ok_word {f : Addr} {fd : FuncData} (F : Fun K "is_word" "is_word" s_is_word f fd) (C : TxtC mg) (D : TxtW mg) (G_is_text_of : Fk P w K mg base CX0 1 "is_text_of" ["value", "characters", "longest"] (spText K)) :
    FnOk P w K mg base CX0 2 f fd ["value"] (spWord K) := by
  obtain ⟨t1, e1⟩ := C.lt
  obtain ⟨t2, e2⟩ := D.dg
  obtain ⟨t3, e3⟩ := D.ln
  refine F.ok sc_is_word (fun vs H Q E h => ?_) (fun cdv A outer s H vs Q E hr h => ?_)
  · obtain ⟨v, rfl, _⟩ := h
    rfl
  · obtain ⟨v, rfl, kd, q⟩ := h
    refine ⟨_, (pss_one (ps_ret (pe_callF G_is_text_of (hr.mono (by decide)) (by rfl) pass0 (pa_cons (pv 0) (pa_cons (pe_op op_add_str (pe_glob (v := .str LET) (by rfl) e1 ⟨_, rfl⟩) (pe_glob (v := .str DIG) (by rfl) e2 ⟨_, rfl⟩)) (pa_cons (pe_glob (v := .int 12) (by rfl) e3 ⟨_, rfl⟩) pa_nil)))))), ?_⟩
    exact ⟨v, rfl, LET, DIG, rfl, rfl, (by decide +kernel), v, WSG, 12, rfl, kd, q⟩
end
end My

namespace My
open PySem PySem.Spec PyProof.Rows L2 Gy Xl Xs Xt
/-! ### what a relink is, over data -/
mutual
/-- few and short parts -/
def sml : PyData → Bool
  | .str x => decide (x.length ≤ 20)
  | .int _ => true
  | .list ds => decide (ds.length ≤ 14) && smls ds
  | .tuple ds => decide (ds.length ≤ 14) && smls ds
  | .dict kvs => decide (kvs.length ≤ 1)
  | .none => true
  | .bool _ => true
def smls : List PyData → Bool
  | [] => true
  | d :: ds => sml d && smls ds
end
theorem smls_mem : ∀ {ds : List PyData} {d : PyData}, smls ds = true → d ∈ ds → sml d = true
  | e :: ds, d, h, m => by
    have h2 : sml e = true ∧ smls ds = true := by simpa only [smls, Bool.and_eq_true] using h
    rcases List.mem_cons.mp m with rfl | m
    · exact h2.1
    · exact smls_mem h2.2 m
def isHost : PyData → Bool
  | .str x => decide ((1 : Int) ≤ (x.length : Int)) && decide ((x.length : Int) ≤ 8) && allIn LET x
  | _ => false
def txts : List PyData → List Str
  | [] => []
  | .str x :: ds => x :: txts ds
  | _ :: ds => txts ds
def isPath : PyData → Bool
  | .tuple ds => decide (3 ≤ ds.length) && (ds.all isHost && decide ((txts ds).Nodup))
  | _ => false
/-- a whole number from 0 on, below another -/
def isIdx (n : Int) : PyData → Bool
  | .int i => decide (0 ≤ i) && decide (i < n)
  | _ => false
theorem isPath_t (ds : List PyData) : isPath (.tuple ds) = (decide (3 ≤ ds.length) && (ds.all isHost && decide ((txts ds).Nodup))) := rfl
theorem isIdx_i (n i : Int) : isIdx n (.int i) = (decide (0 ≤ i) && decide (i < n)) := rfl
def isRel : PyData → Bool
  | .tuple [.tuple ds, c] => isPath (.tuple ds) && isIdx ((ds.length : Int) - 1) c
  | _ => false
theorem txts_all : ∀ {ds : List PyData}, ds.all isHost = true → ds = (txts ds).map PyData.str
  | [], _ => rfl
  | d :: ds, h => by
    have h2 : isHost d = true ∧ ds.all isHost = true := by simpa only [List.all_cons, Bool.and_eq_true] using h
    cases d with
    | str x =>
      show PyData.str x :: ds = PyData.str x :: (txts ds).map PyData.str
      rw [← txts_all h2.2]
    | _ => cases h2.1
section
variable {P : Program} {w : World} {K : PySem.W.Frag} {mg : Str → Option Value} {base : Heap} {H : Hp}
theorem Dns.len : ∀ {vs : List V} {ds : List PyData}, Dns K H vs ds → vs.length = ds.length
  | _, _, .nil => rfl
  | _, _, .cons h t => by rw [List.length_cons, List.length_cons, Dns.len t]
theorem Dns.get : ∀ {vs : List V} {ds : List PyData}, Dns K H vs ds → ∀ {i : Nat} {v : V}, vs[i]? = some v → ∃ d, ds[i]? = some d ∧ Dn K H v d
  | _, _, .nil, i, v, e => by simp at e
  | _, _, .cons h t, 0, v, e => by
    simp at e
    subst e
    exact ⟨_, rfl, h⟩
  | _, _, .cons h t, i + 1, v, e => by
    simp only [List.getElem?_cons_succ] at e ⊢
    exact Dns.get t e
theorem Dns.txts : ∀ {vs : List V} {xs : List Str}, Dns K H vs (xs.map PyData.str) → vs = xs.map V.str
  | _, [], .nil => rfl
  | _, x :: xs, .cons h t => by
    cases h
    rw [Dns.txts t]
    rfl
theorem kd_dn {v : V} {d : PyData} (h : Dn K H v d) (s : sml d = true) : Kd K H v := by
  cases h with
  | non => exact .oth (.base .non) (by decide +kernel) (fun x z => nomatch z)
  | bl b => exact .oth (.base (.bl b)) (by decide +kernel) (fun x z => nomatch z)
  | int i => exact .oth (.base (.int i)) (by decide +kernel) (fun x z => nomatch z)
  | str x =>
    have : x.length ≤ 20 := by simpa only [sml, decide_eq_true_eq] using s
    exact .str x (le200 (by omega))
  | lst e _ => exact .oth (.base (.lst e)) (by decide +kernel) (fun x z => nomatch z)
  | tup e _ => exact .oth e.ty (by decide +kernel) (fun x z => nomatch z)
  | dic e => exact .oth (.base (.dK e)) (by decide +kernel) (fun x z => nomatch z)
  | dic1 e => exact .oth (.base (.dK e)) (by decide +kernel) (fun x z => nomatch z)
theorem host_dn {v : V} {d : PyData} (h : Dn K H v d) : textOf v LET 8 = isHost d := by
  cases h <;> rfl
/-- the kind of a value, and whether it is a tuple -/
theorem tup_or {v : V} {d : PyData} (h : Dn K H v d) : (∃ a xs ds, v = .ref a ∧ d = .tuple ds ∧ Tz H a xs ∧ Dns K H xs ds) ∨ ((∀ ds, d ≠ .tuple ds) ∧ ∃ t, TyX K H v (.type t) ∧ kitB t "tuple" = some false) := by
  cases h with
  | non => exact .inr ⟨(fun _ z => nomatch z), _, .base .non, by decide +kernel⟩
  | bl b => exact .inr ⟨(fun _ z => nomatch z), _, .base (.bl b), by decide +kernel⟩
  | int i => exact .inr ⟨(fun _ z => nomatch z), _, .base (.int i), by decide +kernel⟩
  | str x => exact .inr ⟨(fun _ z => nomatch z), _, .base (.str x), by decide +kernel⟩
  | lst e _ => exact .inr ⟨(fun _ z => nomatch z), _, .base (.lst e), by decide +kernel⟩
  | tup e t => exact .inl ⟨_, _, _, rfl, rfl, e, t⟩
  | dic e => exact .inr ⟨(fun _ z => nomatch z), _, .base (.dK e), by decide +kernel⟩
  | dic1 e => exact .inr ⟨(fun _ z => nomatch z), _, .base (.dK e), by decide +kernel⟩
/-- whether it is a whole number, or True, False -/
theorem int_or {v : V} {d : PyData} (h : Dn K H v d) : (∃ i, v = .int i ∧ d = .int i) ∨ (∃ b, v = .bl b ∧ d = .bool b) ∨ ((∀ i, d ≠ .int i) ∧ ∃ t, TyX K H v (.type t) ∧ kitB t "int" = some false) := by
  cases h with
  | non => exact .inr (.inr ⟨(fun _ z => nomatch z), _, .base .non, by decide +kernel⟩)
  | bl b => exact .inr (.inl ⟨b, rfl, rfl⟩)
  | int i => exact .inl ⟨i, rfl, rfl⟩
  | str x => exact .inr (.inr ⟨(fun _ z => nomatch z), _, .base (.str x), by decide +kernel⟩)
  | lst e _ => exact .inr (.inr ⟨(fun _ z => nomatch z), _, .base (.lst e), by decide +kernel⟩)
  | tup e _ => exact .inr (.inr ⟨(fun _ z => nomatch z), _, e.ty, by decide +kernel⟩)
  | dic e => exact .inr (.inr ⟨(fun _ z => nomatch z), _, .base (.dK e), by decide +kernel⟩)
  | dic1 e => exact .inr (.inr ⟨(fun _ z => nomatch z), _, .base (.dK e), by decide +kernel⟩)
def spPath (K : PySem.W.Frag) : Sp := fun vs H Q _ => ∃ (v : V) (d : PyData), vs = [v] ∧ Dn K H v d ∧ sml d = true ∧ ∀ H', Same H H' → Q (.bl (isPath d)) H'
theorem ok_path {f : Addr} {fd : FuncData} (F : Fun K "is_relink_path" "is_relink_path" s_is_relink_path f fd) (Y : Bn mg) (sp : ∃ t, mg "SHORTEST_PATH" = some (.int 3 t))
    (G_is_host_name : Fk P w K mg base CX0 2 "is_host_name" ["value"] (spHost K)) : FnOk P w K mg base CX0 3 f fd ["value"] (spPath K) := by
  obtain ⟨t1, e1⟩ := sp
  refine F.ok sc_is_relink_path (fun vs H Q E h => ?_) (fun cdv A outer s H vs Q E hr h => ?_)
  · obtain ⟨v, d, rfl, _⟩ := h
    rfl
  · obtain ⟨v, d, rfl, dn, sm, q⟩ := h
    refine ⟨_, (pss_cons (ps_if (PW.pt (pw_or (pt_not (pt_val (pe_callB call_isi (by rfl) Y.isinstance (by decide +kernel) (pa_cons (pv 0) (pa_cons (pe_bltn (v := .ty "tuple") (by rfl) Y.tuple (by decide +kernel) rfl) pa_nil))))) (pw_or1 (pt_cmpR op_lt (pe_callB call_len_seq (by rfl) Y.len PySem.boot_len (pa_cons (pv 0) pa_nil)) (pe_glob (v := .int 3) (by rfl) e1 ⟨_, rfl⟩) (nomark _)))))
 (pss_one (ps_ret pe_bl))
 pss_nil)
 (pss_one (ps_ret (pe_and (pe_callB (cr_all rfl) (by rfl) Y.all (by decide +kernel) (pa_cons (pe_lc (own := [("host", 1)]) (g := gName 1) (tt := tYes) rfl sc_is_relink_path.nd (pi_tup (pv 0)) (blkOk_by (N := ["value", "host"]) (sc := defScope s_is_relink_path) (by decide +kernel)) (fun _ _ _ _ _ => (pg_name (i := 1) sc_is_relink_path.nd rfl (Or.inl rfl))) (fun _ _ _ _ _ => pts_nil) (fun _ _ _ _ _ => (pe_callF G_is_host_name (hr.mono (by decide)) (by rfl) pass0 (pa_cons (pv 1) pa_nil)))) pa_nil)) (pe_one (pe_cmpR op_eq (pe_lenTexts (by rfl) Y.len (by rfl) Y.set (pv 0)) (pe_callB call_len_seq (by rfl) Y.len PySem.boot_len (pa_cons (pv 0) pa_nil)) (nomark _))))))), ?_⟩
    rcases tup_or dn with ⟨a, xs, ds, rfl, rfl, ha, hd⟩ | ⟨no, t, ty, kt⟩
    · have sm2 : ds.length ≤ 14 ∧ smls ds = true := by simpa only [sml, Bool.and_eq_true, decide_eq_true_eq] using sm
      have el := Dns.len hd
      refine ⟨_, rfl, _, _, _, _, true, rfl, .ty "tuple", ha.ty, kit_ty (by decide +kernel), _, rfl, iteF ?_⟩
      refine ⟨_, rfl, a, _, rfl, .inr (ha.sq), _, 3, rfl, rfl, _, rfl, ite2 (fun c => ?_) (fun c => ?_)⟩
      · have c' := of_decide_eq_true c
        have z : isPath (.tuple ds) = false := by
          rw [isPath_t]
          rw [decide_eq_false (show ¬ 3 ≤ ds.length by omega), Bool.false_and]
        rw [z] at q
        exact q _ (Same.refl _)
      · have c' : ¬ (xs.length : Int) < 3 := fun z => c (decide_eq_true z)
        refine ⟨_, rfl, a, rfl, ⟨_, ha.sq⟩, fun D hD => ?_⟩
        refine lc_it (walk_tup (K := K) (a := a) (xs := xs)) (fun i H' => Same H H' ∧ H' D = some (.lst (((ds.take i).map isHost).map V.bl))) ⟨same_upd hD, upd_same⟩ (fun i H' _ h => (ha.same h.1).sq) ?_ ?_
        · rintro i y H1 H2 hi ⟨s1, hL⟩ ⟨rfl, hy⟩
          obtain ⟨di, hdi, dni⟩ := Dns.get hd hy
          refine ⟨rfl, ?_⟩
          dsimp only [tYes]
          refine iteT ?_
          refine ⟨_, rfl, y, rfl, kd_dn (dni.same s1) (smls_mem sm2.2 (List.mem_of_getElem? hdi)), fun H3 s3 => ?_⟩
          refine ⟨_, s3 _ _ hL, ?_, same_upd2 (s1.trans s3) hD, ?_⟩
          · rw [List.length_map, List.length_map, List.length_take]
            exact small200 (by omega)
          · rw [upd_same, host_dn dni, List.take_add_one, hdi, List.map_append, List.map_append]
            rfl
        · rintro H1 ⟨s1, hL⟩
          rw [el, List.take_of_length_le (Nat.le_refl _)] at hL
          refine ⟨D, _, rfl, SqL.of hL, _, rfl, ite2 (fun c1 => ?_) (fun c1 => ?_)⟩
          · rw [List.all_map] at c1
            have c2 : ds.all isHost = true := c1
            have e := txts_all c2
            have ha1 := ha.same s1
            have ex : xs = (txts ds).map V.str := by
              rw [e] at hd
              exact Dns.txts hd
            have el2 : xs.length = (txts ds).length := by rw [ex, List.length_map]
            refine ⟨_, rfl, a, txts ds, rfl, (by rw [← ex]; exact ha1.sq), (by omega), _, rfl, a, _, rfl, .inr (ha1.sq), rfl, ?_⟩
            have z : isPath (.tuple ds) = decide (V.int ((numd (txts ds) (txts ds).length : Nat) : Int) = V.int (xs.length : Int)) := by
              rw [isPath_t]
              rw [c2, decide_eq_true (show 3 ≤ ds.length by omega), Bool.true_and, Bool.true_and]
              congr 1
              have nf := numd_full (txts ds) (txts ds).length (Nat.le_refl _)
              rw [List.take_of_length_le (Nat.le_refl _)] at nf
              rw [← nf, eq_iff_iff, el2]
              refine ⟨fun z => by rw [z], fun z => ?_⟩
              injection z with z
              omega
            rw [← z]
            exact q _ s1
          · rw [List.all_map] at c1
            have c2 : ds.all isHost = false := Bool.eq_false_iff.mpr c1
            have z : isPath (.tuple ds) = false := by
              rw [isPath_t]
              rw [c2, Bool.false_and, Bool.and_false]
            rw [z] at q
            exact q _ s1
    · refine ⟨v, rfl, v, _, _, _, false, rfl, .ty "tuple", ty, kit_ty kt, _, rfl, ?_⟩
      refine iteT (iteT ?_)
      have z : isPath d = false := by
        cases d with
        | tuple ds => exact absurd rfl (no ds)
        | _ => rfl
      rw [z] at q
      exact q _ (Same.refl _)
/-! ### whole numbers, the cut -/
/-- a whole number from another on -/
def isFrom (n : Int) : PyData → Bool
  | .int i => decide (n ≤ i)
  | _ => false
def spFrom (K : PySem.W.Frag) : Sp := fun vs H Q _ => ∃ (v : V) (n : Int) (d : PyData), vs = [v, .int n] ∧ Dn K H v d ∧ Q (.bl (isFrom n d)) H
theorem ok_from {f : Addr} {fd : FuncData} (F : Fun K "is_integer_from" "is_integer_from" s_is_integer_from f fd) (Y : Bn mg) : FnOk P w K mg base CX0 1 f fd ["value", "least"] (spFrom K) := by
  refine F.ok sc_is_integer_from (fun vs H Q E h => ?_) (fun cdv A outer s H vs Q E hr h => ?_)
  · obtain ⟨v, n, d, rfl, _⟩ := h
    rfl
  · obtain ⟨v, n, d, rfl, dn, q⟩ := h
    refine ⟨_, (pss_one (ps_ret (pe_and (pe_callB call_isi (by rfl) Y.isinstance (by decide +kernel) (pa_cons (pv 0) (pa_cons (pe_bltn (v := .ty "int") (by rfl) Y.int (by decide +kernel) rfl) pa_nil))) (pe_and (pe_not (pe_callB call_isi (by rfl) Y.isinstance (by decide +kernel) (pa_cons (pv 0) (pa_cons (pe_bltn (v := .ty "bool") (by rfl) Y.bool (by decide +kernel) rfl) pa_nil)))) (pe_one (pe_cmpR op_ge (pv 0) (pv 1) (nomark _))))))), ?_⟩
    rcases int_or dn with ⟨i, rfl, rfl⟩ | ⟨b, rfl, rfl⟩ | ⟨no, t, ty, kt⟩
    · refine ⟨_, rfl, _, _, _, _, true, rfl, .ty "int", .base (.int i), kit_ty (by decide +kernel), _, rfl, iteT ?_⟩
      refine ⟨_, rfl, _, _, _, _, false, rfl, .ty "bool", .base (.int i), kit_ty (by decide +kernel), _, rfl, _, rfl, iteT ?_⟩
      exact ⟨_, rfl, _, rfl, _, _, rfl, rfl, q⟩
    · refine ⟨_, rfl, _, _, _, _, true, rfl, .ty "int", .base (.bl b), kit_ty (by decide +kernel), _, rfl, iteT ?_⟩
      refine ⟨_, rfl, _, _, _, _, true, rfl, .ty "bool", .base (.bl b), kit_ty (by decide +kernel), _, rfl, _, rfl, iteF ?_⟩
      exact q
    · refine ⟨v, rfl, v, _, _, _, false, rfl, .ty "int", ty, kit_ty kt, _, rfl, iteF ?_⟩
      have z : isFrom n d = false := by
        cases d with
        | int i => exact absurd rfl (no i)
        | _ => rfl
      rw [z] at q
      exact q
def spIdx (K : PySem.W.Frag) : Sp := fun vs H Q _ => ∃ (v : V) (n : Int) (d : PyData), vs = [v, .int n] ∧ Dn K H v d ∧ Q (.bl (isIdx n d)) H
theorem ok_idx {f : Addr} {fd : FuncData} (F : Fun K "is_index" "is_index" s_is_index f fd) (G_is_integer_from : Fk P w K mg base CX0 1 "is_integer_from" ["value", "least"] (spFrom K)) : FnOk P w K mg base CX0 2 f fd ["value", "size"] (spIdx K) := by
  refine F.ok sc_is_index (fun vs H Q E h => ?_) (fun cdv A outer s H vs Q E hr h => ?_)
  · obtain ⟨v, n, d, rfl, _⟩ := h
    rfl
  · obtain ⟨v, n, d, rfl, dn, q⟩ := h
    refine ⟨_, (pss_one (ps_ret (pe_and (pe_callF G_is_integer_from (hr.mono (by decide)) (by rfl) pass0 (pa_cons (pv 0) (pa_cons pe_int pa_nil))) (pe_one (pe_cmpR op_lt (pv 0) (pv 1) (nomark _)))))), ?_⟩
    refine ⟨_, rfl, v, 0, d, rfl, dn, _, rfl, ite2 (fun c => ?_) (fun c => ?_)⟩
    · cases d with
      | int i =>
        cases dn
        refine ⟨_, rfl, _, rfl, _, _, rfl, rfl, ?_⟩
        have z : isIdx n (.int i) = decide (i < n) := by
          rw [isIdx_i]
          have c' : decide ((0 : Int) ≤ i) = true := c
          rw [c', Bool.true_and]
        rw [z] at q
        exact q
      | _ => cases c
    · have z : isIdx n d = false := by
        cases d with
        | int i =>
          rw [isIdx_i]
          have c' : decide ((0 : Int) ≤ i) = false := Bool.eq_false_iff.mpr c
          rw [c', Bool.false_and]
        | _ => rfl
      rw [z] at q
      exact q
def spCut (K : PySem.W.Frag) : Sp := fun vs H Q _ => ∃ (a : Addr) (xs : List V) (v : V) (d : PyData), vs = [.ref a, v] ∧ Tz H a xs ∧ Dn K H v d ∧ Q (.bl (isIdx ((xs.length : Int) - 1) d)) H
theorem ok_cut {f : Addr} {fd : FuncData} (F : Fun K "is_cut_of" "is_cut_of" s_is_cut_of f fd) (Y : Bn mg) (G_is_index : Fk P w K mg base CX0 2 "is_index" ["value", "size"] (spIdx K)) : FnOk P w K mg base CX0 3 f fd ["path", "value"] (spCut K) := by
  refine F.ok sc_is_cut_of (fun vs H Q E h => ?_) (fun cdv A outer s H vs Q E hr h => ?_)
  · obtain ⟨a, xs, v, d, rfl, _⟩ := h
    rfl
  · obtain ⟨a, xs, v, d, rfl, ha, dn, q⟩ := h
    refine ⟨_, (pss_one (ps_ret (pe_callF G_is_index (hr.mono (by decide)) (by rfl) pass0 (pa_cons (pv 1) (pa_cons (pe_op op_sub (pe_callB call_len_seq (by rfl) Y.len PySem.boot_len (pa_cons (pv 0) pa_nil)) pe_int) pa_nil))))), ?_⟩
    exact ⟨_, rfl, _, rfl, a, _, rfl, .inr ha.sq, _, _, rfl, rfl, v, _, d, rfl, dn, q⟩
/-! ### is_relink -/
def spRel (K : PySem.W.Frag) : Sp := fun vs H Q _ => ∃ (v : V) (d : PyData), vs = [v] ∧ Dn K H v d ∧ sml d = true ∧ ∀ H', Same H H' → Q (.bl (isRel d)) H'
theorem isRel_2 (p c : PyData) : isRel (.tuple [p, c]) = (isPath p && (match p with | .tuple ds => isIdx ((ds.length : Int) - 1) c | _ => false)) := by
  cases p <;> rfl
theorem isRel_n {ds : List PyData} (h : ds.length ≠ 2) : isRel (.tuple ds) = false := by
  match ds, h with
  | [], _ => rfl
  | [p], _ => cases p <;> rfl
  | p :: c :: e :: ds, _ => cases p <;> rfl
  | [p, c], h => exact absurd rfl h
theorem ok_rel {f : Addr} {fd : FuncData} (F : Fun K "is_relink" "is_relink" s_is_relink f fd) (Y : Bn mg) (G_is_relink_path : Fk P w K mg base CX0 3 "is_relink_path" ["value"] (spPath K)) (G_is_cut_of : Fk P w K mg base CX0 3 "is_cut_of" ["path", "value"] (spCut K)) :
    FnOk P w K mg base CX0 4 f fd ["value"] (spRel K) := by
  refine F.ok sc_is_relink (fun vs H Q E h => ?_) (fun cdv A outer s H vs Q E hr h => ?_)
  · obtain ⟨v, d, rfl, _⟩ := h
    rfl
  · obtain ⟨v, d, rfl, dn, sm, q⟩ := h
    refine ⟨_, (pss_cons (ps_if (PW.pt (pw_or (pt_not (pt_val (pe_callB call_isi (by rfl) Y.isinstance (by decide +kernel) (pa_cons (pv 0) (pa_cons (pe_bltn (v := .ty "tuple") (by rfl) Y.tuple (by decide +kernel) rfl) pa_nil))))) (pw_or1 (pt_cmpR op_ne (pe_callB call_len_seq (by rfl) Y.len PySem.boot_len (pa_cons (pv 0) pa_nil)) pe_int (nomark _)))))
 (pss_one (ps_ret pe_bl))
 pss_nil)
 (pss_cons (ps_asg (pv 0) (pg_tup (by rfl) (pgs_cons (pg_name (i := 1) sc_is_relink.nd rfl (Or.inl rfl)) (pgs_cons (pg_name (i := 2) sc_is_relink.nd rfl (Or.inl rfl)) pgs_nil))))
 (pss_one (ps_ret (pe_and (pe_callF G_is_relink_path (hr.mono (by decide)) (by rfl) pass0 (pa_cons (pv 1) pa_nil)) (pe_one (pe_callF G_is_cut_of (hr.mono (by decide)) (by rfl) pass0 (pa_cons (pv 1) (pa_cons (pv 2) pa_nil))))))))), ?_⟩
    rcases tup_or dn with ⟨a, xs, ds, rfl, rfl, ha, hd⟩ | ⟨no, t, ty, kt⟩
    · have sm2 : ds.length ≤ 14 ∧ smls ds = true := by simpa only [sml, Bool.and_eq_true, decide_eq_true_eq] using sm
      have el := Dns.len hd
      refine ⟨_, rfl, _, _, _, _, true, rfl, .ty "tuple", ha.ty, kit_ty (by decide +kernel), _, rfl, iteF ?_⟩
      refine ⟨_, rfl, a, _, rfl, .inr (ha.sq), rfl, _, rfl, ite2 (fun c => ?_) (fun c => ?_)⟩
      · have c' : ds.length ≠ 2 := fun z => by
          rw [decide_eq_true (show V.int (xs.length : Int) = V.int 2 by rw [el, z]; rfl)] at c
          cases c
        rw [isRel_n c'] at q
        exact q _ (Same.refl _)
      · have c' : xs.length = 2 := by
          have z : V.int (xs.length : Int) = V.int 2 := Decidable.of_not_not fun z => c (by rw [decide_eq_false z]; rfl)
          injection z with z
          omega
        obtain ⟨p, c0, rfl⟩ : ∃ p c0, xs = [p, c0] := by
          match xs, c' with
          | [p, c0], _ => exact ⟨p, c0, rfl⟩
        cases hd with
        | @cons _ _ dp _ h1 hd =>
        cases hd with
        | @cons _ _ dc _ h2 hd =>
          cases hd
          have m1 : sml dp = true := smls_mem sm2.2 List.mem_cons_self
          rw [isRel_2] at q
          refine ⟨_, rfl, a, _, rfl, ha.sq, rfl, _, _, rfl, _, _, rfl, rfl, ?_⟩
          refine ⟨_, rfl, p, dp, rfl, h1, m1, fun H1 s1 => ⟨_, rfl, ite2 (fun c1 => ?_) (fun c1 => ?_)⟩⟩
          · rw [c1, Bool.true_and] at q
            rcases tup_or h1 with ⟨b, ys, es, rfl, rfl, hb, hes⟩ | ⟨no, _⟩
            · have el2 := Dns.len hes
              refine ⟨_, rfl, _, rfl, b, ys, c0, dc, rfl, hb.same s1, h2.same s1, ?_⟩
              rw [el2]
              exact q _ s1
            · cases dp with
              | tuple es => exact absurd rfl (no es)
              | _ => cases c1
          · rw [Bool.eq_false_iff.mpr c1, Bool.false_and] at q
            exact q _ s1
    · refine ⟨v, rfl, v, _, _, _, false, rfl, .ty "tuple", ty, kit_ty kt, _, rfl, ?_⟩
      refine iteT (iteT ?_)
      have z : isRel d = false := by
        cases d with
        | tuple ds => exact absurd rfl (no ds)
        | _ => rfl
      rw [z] at q
      exact q _ (Same.refl _)
end
end My

namespace My
open PySem PySem.Spec PyProof.Rows L2 Gy Xl Xs Xt
/-! ### control items: their kinds, which of them a host receives, the step -/
def KINDS : List Str := ["ask", "no", "yes", "go", "back"]
def isKind : PyData → Bool
  | .str x => decide (x ∈ KINDS)
  | _ => false
/-- the written tuple of the kinds -/
def KindsAt (o : Obj) : Prop := ∃ (its : Array Value) (n : Nat), o.cls = .type "tuple" ∧ o.data = .seq its n ∧ its.size ≤ sizeLine ∧ Vals (KINDS.map V.str) its.toList
structure TxtK (K : PySem.W.Frag) (mg : Str → Option Value) : Prop where
  ex : ∃ (a : Addr) (o : Obj), mg "CONTROL_KINDS" = some (.ref a) ∧ K.lookup a = some o ∧ KindsAt o
/-- whether a value is a text -/
theorem str_or {K : PySem.W.Frag} {H : Hp} {v : V} {d : PyData} (h : Dn K H v d) : (∃ x, v = .str x ∧ d = .str x) ∨ ((∀ x, d ≠ .str x) ∧ ∃ t, TyX K H v (.type t) ∧ kitB t "str" = some false) := by
  cases h with
  | non => exact .inr ⟨(fun _ z => nomatch z), _, .base .non, by decide +kernel⟩
  | bl b => exact .inr ⟨(fun _ z => nomatch z), _, .base (.bl b), by decide +kernel⟩
  | int i => exact .inr ⟨(fun _ z => nomatch z), _, .base (.int i), by decide +kernel⟩
  | str x => exact .inl ⟨x, rfl, rfl⟩
  | lst e _ => exact .inr ⟨(fun _ z => nomatch z), _, .base (.lst e), by decide +kernel⟩
  | tup e t => exact .inr ⟨(fun _ z => nomatch z), _, e.ty, by decide +kernel⟩
  | dic e => exact .inr ⟨(fun _ z => nomatch z), _, .base (.dK e), by decide +kernel⟩
  | dic1 e => exact .inr ⟨(fun _ z => nomatch z), _, .base (.dK e), by decide +kernel⟩
section
variable {P : Program} {w : World} {K : PySem.W.Frag} {mg : Str → Option Value} {base : Heap} {H : Hp}
def spKind (K : PySem.W.Frag) : Sp := fun vs H Q _ => ∃ (v : V) (d : PyData), vs = [v] ∧ Dn K H v d ∧ Q (.bl (isKind d)) H
theorem ok_kind {f : Addr} {fd : FuncData} (F : Fun K "is_control_kind" "is_control_kind" s_is_control_kind f fd) (Y : Bn mg) (T : TxtK K mg) : FnOk P w K mg base CX0 1 f fd ["value"] (spKind K) := by
  obtain ⟨ck, o, gm, lk, its, n, o1, o2, o3, o4⟩ := T.ex
  refine F.ok sc_is_control_kind (fun vs H Q E h => ?_) (fun cdv A outer s H vs Q E hr h => ?_)
  · obtain ⟨v, d, rfl, _⟩ := h
    rfl
  · obtain ⟨v, d, rfl, dn, q⟩ := h
    refine ⟨_, (pss_one (ps_ret (pe_and (pe_callB call_isi (by rfl) Y.isinstance (by decide +kernel) (pa_cons (pv 0) (pa_cons (pe_bltn (v := .ty "str") (by rfl) Y.str (by decide +kernel) rfl) pa_nil))) (pe_one (pe_cmpR op_in_seq (pv 0) (pe_glob (v := .ref ck) (by rfl) gm rfl) rfl))))), ?_⟩
    rcases str_or dn with ⟨x, rfl, rfl⟩ | ⟨no, t, ty, kt⟩
    · refine ⟨_, rfl, _, _, _, _, true, rfl, .ty "str", .base (.str x), kit_ty (by decide +kernel), _, rfl, iteT ?_⟩
      refine ⟨_, rfl, ck, _, rfl, .inr (.inr ⟨o, its, n, lk, o1, o2, o3, o4⟩), rfl, flat_strs _, ?_⟩
      show Q (.bl (inV (.str x) (KINDS.map V.str))) H
      rw [inV_strs]
      exact q
    · refine ⟨v, rfl, v, _, _, _, false, rfl, .ty "str", ty, kit_ty kt, _, rfl, iteF ?_⟩
      have z : isKind d = false := by
        cases d with
        | str x => exact absurd rfl (no x)
        | _ => rfl
      rw [z] at q
      exact q
end
end My

namespace My
open PySem PySem.Spec PyProof.Rows L2 Gy Xl Xs Xt
/-! ### items, over data -/
def isWord : PyData → Bool
  | .str x => decide ((1 : Int) ≤ (x.length : Int)) && decide ((x.length : Int) ≤ 12) && allIn WSG x
  | _ => false
def isMsg : List PyData → Bool
  | [w, x, b] => isHost w && (isWord x && isIdx 2 b)
  | _ => false
def isItem : PyData → Bool
  | .tuple (.str k :: ds) => if k = "message" then isMsg ds else if k = "bye" then ds.isEmpty else decide (k ∈ KINDS) && isRel (.tuple ds)
  | _ => false
theorem word_dn {K : PySem.W.Frag} {H : Hp} {v : V} {d : PyData} (h : Dn K H v d) : textOf v WSG 12 = isWord d := by
  cases h <;> rfl
theorem isMsg_n {ds : List PyData} (h : ds.length ≠ 3) : isMsg ds = false := by
  match ds, h with
  | [], _ => rfl
  | [a], _ => rfl
  | [a, b], _ => rfl
  | [a, b, c], h => exact absurd rfl h
  | a :: b :: c :: d :: ds, _ => rfl
theorem cut1 (x : V) (xs : List V) : cutV (x :: xs) (some 1) none = xs := by
  unfold cutV
  rw [show (some 1 : Option Int) = some ((1 : Nat) : Int) from rfl, HT.sIx_nat, HT.sIx_none, List.length_cons, show min 1 (xs.length + 1) = 1 by omega]
  show (List.drop 0 xs).take _ = _
  rw [List.drop_zero, List.take_of_length_le (by omega)]
structure TxtI (mg : Str → Option Value) : Prop where
  ms : ∃ t, mg "MESSAGE" = some (.str "message" t)
  by_ : ∃ t, mg "BYE" = some (.str "bye" t)
  bt : ∃ t, mg "BITS" = some (.int 2 t)
section
variable {P : Program} {w : World} {K : PySem.W.Frag} {mg : Str → Option Value} {base : Heap} {H : Hp}
def spMsg (K : PySem.W.Frag) : Sp := fun vs H Q _ => ∃ (a : Addr) (xs : List V) (ds : List PyData), vs = [.ref a] ∧ Tz H a xs ∧ Dns K H xs ds ∧ smls ds = true ∧ ∀ H', Same H H' → Q (.bl (isMsg ds)) H'
theorem ok_msg {f : Addr} {fd : FuncData} (F : Fun K "are_message_parts" "are_message_parts" s_are_message_parts f fd) (Y : Bn mg) (T : TxtI mg) (G_is_host_name : Fk P w K mg base CX0 2 "is_host_name" ["value"] (spHost K)) (G_is_word : Fk P w K mg base CX0 2 "is_word" ["value"] (spWord K))
    (G_is_index : Fk P w K mg base CX0 2 "is_index" ["value", "size"] (spIdx K)) : FnOk P w K mg base CX0 3 f fd ["parts"] (spMsg K) := by
  obtain ⟨t1, e1⟩ := T.bt
  refine F.ok sc_are_message_parts (fun vs H Q E h => ?_) (fun cdv A outer s H vs Q E hr h => ?_)
  · obtain ⟨a, xs, ds, rfl, _⟩ := h
    rfl
  · obtain ⟨a, xs, ds, rfl, ha, hd, sm, q⟩ := h
    have el := Dns.len hd
    refine ⟨_, (pss_cons (ps_if (pt_cmpR op_ne (pe_callB call_len_seq (by rfl) Y.len PySem.boot_len (pa_cons (pv 0) pa_nil)) pe_int (nomark _))
 (pss_one (ps_ret pe_bl))
 pss_nil)
 (pss_cons (ps_asg (pv 0) (pg_tup (by rfl) (pgs_cons (pg_name (i := 1) sc_are_message_parts.nd rfl (Or.inl rfl)) (pgs_cons (pg_name (i := 2) sc_are_message_parts.nd rfl (Or.inl rfl)) (pgs_cons (pg_name (i := 3) sc_are_message_parts.nd rfl (Or.inl rfl)) pgs_nil)))))
 (pss_one (ps_ret (pe_and (pe_callF G_is_host_name (hr.mono (by decide)) (by rfl) pass0 (pa_cons (pv 1) pa_nil)) (pe_and (pe_callF G_is_word (hr.mono (by decide)) (by rfl) pass0 (pa_cons (pv 2) pa_nil)) (pe_one (pe_callF G_is_index (hr.mono (by decide)) (by rfl) pass0 (pa_cons (pv 3) (pa_cons (pe_glob (v := .int 2) (by rfl) e1 ⟨_, rfl⟩) pa_nil)))))))))), ?_⟩
    refine ⟨_, rfl, a, _, rfl, .inr ha.sq, rfl, _, rfl, ite2 (fun c => ?_) (fun c => ?_)⟩
    · have c' : ds.length ≠ 3 := fun z => by
        rw [decide_eq_true (show V.int (xs.length : Int) = V.int 3 by rw [el, z]; rfl)] at c
        cases c
      rw [isMsg_n c'] at q
      exact q _ (Same.refl _)
    · have c' : xs.length = 3 := by
        have z : V.int (xs.length : Int) = V.int 3 := Decidable.of_not_not fun z => c (by rw [decide_eq_false z]; rfl)
        injection z with z
        omega
      obtain ⟨x, y, z, rfl⟩ : ∃ x y z, xs = [x, y, z] := by
        match xs, c' with
        | [x, y, z], _ => exact ⟨x, y, z, rfl⟩
      cases hd with
      | @cons _ _ dx _ h1 hd =>
      cases hd with
      | @cons _ _ dy _ h2 hd =>
      cases hd with
      | @cons _ _ dz _ h3 hd =>
        cases hd
        have m1 : sml dx = true := smls_mem sm List.mem_cons_self
        have m2 : sml dy = true := smls_mem sm (List.mem_cons_of_mem _ List.mem_cons_self)
        refine ⟨_, rfl, a, _, rfl, ha.sq, rfl, _, _, rfl, _, _, rfl, _, _, rfl, rfl, ?_⟩
        have e : isMsg [dx, dy, dz] = (isHost dx && (isWord dy && isIdx 2 dz)) := rfl
        rw [e] at q
        refine ⟨_, rfl, x, rfl, kd_dn h1 m1, fun H1 s1 => ?_⟩
        rw [host_dn h1]
        refine ⟨_, rfl, ite2 (fun c1 => ?_) (fun c1 => ?_)⟩
        · rw [c1, Bool.true_and] at q
          refine ⟨_, rfl, y, rfl, kd_dn (h2.same s1) m2, fun H2 s2 => ?_⟩
          rw [word_dn h2]
          refine ⟨_, rfl, ite2 (fun c2 => ?_) (fun c2 => ?_)⟩
          · rw [c2, Bool.true_and] at q
            exact ⟨_, rfl, z, 2, dz, rfl, (h3.same s1).same s2, q _ (s1.trans s2)⟩
          · rw [Bool.eq_false_iff.mpr c2, Bool.false_and] at q
            exact q _ (s1.trans s2)
        · rw [Bool.eq_false_iff.mpr c1, Bool.false_and] at q
          exact q _ s1
def spItem (K : PySem.W.Frag) : Sp := fun vs H Q _ => ∃ (v : V) (d : PyData), vs = [v] ∧ Dn K H v d ∧ sml d = true ∧ ∀ H', Same H H' → Q (.bl (isItem d)) H'
theorem smls_tail {d : PyData} {ds : List PyData} (h : smls (d :: ds) = true) : smls ds = true := by
  have h2 : sml d = true ∧ smls ds = true := by simpa only [smls, Bool.and_eq_true] using h
  exact h2.2
theorem ok_item {f : Addr} {fd : FuncData} (F : Fun K "is_item" "is_item" s_is_item f fd) (Y : Bn mg) (T : TxtI mg) (G_are_message_parts : Fk P w K mg base CX0 3 "are_message_parts" ["parts"] (spMsg K)) (G_is_control_kind : Fk P w K mg base CX0 1 "is_control_kind" ["value"] (spKind K))
    (G_is_relink : Fk P w K mg base CX0 4 "is_relink" ["value"] (spRel K)) : FnOk P w K mg base CX0 5 f fd ["value"] (spItem K) := by
  obtain ⟨t1, e1⟩ := T.ms
  obtain ⟨t2, e2⟩ := T.by_
  refine F.ok sc_is_item (fun vs H Q E h => ?_) (fun cdv A outer s H vs Q E hr h => ?_)
  · obtain ⟨v, d, rfl, _⟩ := h
    rfl
  · obtain ⟨v, d, rfl, dn, sm, q⟩ := h
    refine ⟨_, (pss_cons (ps_if (PW.pt (pw_or (pt_not (pt_val (pe_callB call_isi (by rfl) Y.isinstance (by decide +kernel) (pa_cons (pv 0) (pa_cons (pe_bltn (v := .ty "tuple") (by rfl) Y.tuple (by decide +kernel) rfl) pa_nil))))) (pw_or (pt_cmpR op_eq (pe_callB call_len_seq (by rfl) Y.len PySem.boot_len (pa_cons (pv 0) pa_nil)) pe_int (nomark _)) (pw_or1 (pt_not (pt_val (pe_callB call_isi (by rfl) Y.isinstance (by decide +kernel) (pa_cons (pe_ix ix_tup (pv 0) pe_int (fun _ _ => rfl)) (pa_cons (pe_bltn (v := .ty "str") (by rfl) Y.str (by decide +kernel) rfl) pa_nil)))))))))
 (pss_one (ps_ret pe_bl))
 pss_nil)
 (pss_cons (ps_set (i := 1) sc_is_item.nd rfl (.inl rfl) (pe_slice sl_cutA (pv 0) (po_some pe_int) po_none))
 (pss_cons (ps_if (pt_cmpR op_eq (pe_ix ix_tup (pv 0) pe_int (fun _ _ => rfl)) (pe_glob (v := .str "message") (by rfl) e1 ⟨_, rfl⟩) (nomark _))
 (pss_one (ps_ret (pe_callF G_are_message_parts (hr.mono (by decide)) (by rfl) pass0 (pa_cons (pv 1) pa_nil))))
 pss_nil)
 (pss_cons (ps_if (pt_cmpR op_eq (pe_ix ix_tup (pv 0) pe_int (fun _ _ => rfl)) (pe_glob (v := .str "bye") (by rfl) e2 ⟨_, rfl⟩) (nomark _))
 (pss_one (ps_ret (pe_cmpR op_eq (pe_callB call_len_seq (by rfl) Y.len PySem.boot_len (pa_cons (pv 1) pa_nil)) pe_int (nomark _))))
 pss_nil)
 (pss_one (ps_ret (pe_and (pe_callF G_is_control_kind (hr.mono (by decide)) (by rfl) pass0 (pa_cons (pe_ix ix_tup (pv 0) pe_int (fun _ _ => rfl)) pa_nil)) (pe_one (pe_callF G_is_relink (hr.mono (by decide)) (by rfl) pass0 (pa_cons (pv 1) pa_nil)))))))))), ?_⟩
    rcases tup_or dn with ⟨a, xs, ds, rfl, rfl, ha, hd⟩ | ⟨no, t, ty, kt⟩
    · have sm2 : ds.length ≤ 14 ∧ smls ds = true := by simpa only [sml, Bool.and_eq_true, decide_eq_true_eq] using sm
      refine ⟨_, rfl, _, _, _, _, true, rfl, .ty "tuple", ha.ty, kit_ty (by decide +kernel), _, rfl, iteF ?_⟩
      refine ⟨_, rfl, a, _, rfl, .inr ha.sq, rfl, _, rfl, ?_⟩
      cases hd with
      | nil =>
        refine iteT (iteT ?_)
        exact q _ (Same.refl _)
      | @cons x xs d0 ds h0 hd =>
        refine iteF ?_
        refine ⟨_, rfl, a, _, 0, x, rfl, rfl, ha.sq, atI_nat (j := 0) rfl, ?_⟩
        rcases str_or h0 with ⟨k, rfl, rfl⟩ | ⟨no, t, ty, kt⟩
        · refine ⟨_, _, _, _, true, rfl, .ty "str", .base (.str k), kit_ty (by decide +kernel), _, rfl, iteF ?_⟩
          have e : isItem (.tuple (.str k :: ds)) = (if k = "message" then isMsg ds else if k = "bye" then ds.isEmpty else decide (k ∈ KINDS) && isRel (.tuple ds)) := rfl
          rw [e] at q
          refine ⟨_, rfl, 1, rfl, a, _, rfl, ha, ?_⟩
          rw [cut1]
          have el := Dns.len hd
          refine ⟨fun z => ?_, fun p o np st tp => ?_⟩
          · have z := congrArg List.length z
            rw [List.length_cons] at z
            omega
          generalize upd _ p o = H1 at st tp ⊢
          have ha1 := ha.same st
          have hd1 := hd.same st
          have sp : smls ds = true := smls_tail sm2.2
          have lp : ds.length ≤ 14 := by have := sm2.1; rw [List.length_cons] at this; omega
          refine ⟨_, rfl, a, _, 0, _, rfl, rfl, ha1.sq, atI_nat (j := 0) rfl, rfl, _, rfl, ite2 (fun c1 => ?_) (fun c1 => ?_)⟩
          · have c1' : k = "message" := by
              have z := of_decide_eq_true c1
              injection z
            rw [if_pos c1'] at q
            exact ⟨_, rfl, p, _, ds, rfl, tp, hd1, sp, fun H2 s2 => q _ (st.trans s2)⟩
          have c1' : ¬ k = "message" := fun z => c1 (decide_eq_true (by rw [z]))
          rw [if_neg c1'] at q
          refine ⟨_, rfl, a, _, 0, _, rfl, rfl, ha1.sq, atI_nat (j := 0) rfl, rfl, _, rfl, ite2 (fun c2 => ?_) (fun c2 => ?_)⟩
          · have c2' : k = "bye" := by
              have z := of_decide_eq_true c2
              injection z
            rw [if_pos c2'] at q
            refine ⟨_, rfl, p, _, rfl, .inr tp.sq, rfl, ?_⟩
            have z : decide (V.int (xs.length : Int) = V.int 0) = ds.isEmpty := by
              rw [el]
              cases ds with
              | nil => rfl
              | cons y ys =>
                refine decide_eq_false fun w => ?_
                injection w with w
                rw [List.length_cons] at w
                omega
            rw [z]
            exact q _ st
          have c2' : ¬ k = "bye" := fun z => c2 (decide_eq_true (by rw [z]))
          rw [if_neg c2'] at q
          refine ⟨_, rfl, a, _, 0, _, rfl, rfl, ha1.sq, atI_nat (j := 0) rfl, _, .str k, rfl, .str k, _, rfl, ?_⟩
          have ek : isKind (.str k) = decide (k ∈ KINDS) := rfl
          rw [ek]
          refine ite2 (fun c3 => ?_) (fun c3 => ?_)
          · rw [c3, Bool.true_and] at q
            refine ⟨_, rfl, _, .tuple ds, rfl, .tup tp hd1, ?_, fun H2 s2 => q _ (st.trans s2)⟩
            show (decide (ds.length ≤ 14) && smls ds) = true
            rw [decide_eq_true lp, sp]
            rfl
          · rw [Bool.eq_false_iff.mpr c3, Bool.false_and] at q
            exact q _ st
        · refine ⟨_, _, _, _, false, rfl, .ty "str", ty, kit_ty kt, _, rfl, iteT ?_⟩
          have z : isItem (.tuple (d0 :: ds)) = false := by
            cases d0 with
            | str x => exact absurd rfl (no x)
            | _ => rfl
          rw [z] at q
          exact q _ (Same.refl _)
    · refine ⟨v, rfl, v, _, _, _, false, rfl, .ty "tuple", ty, kit_ty kt, _, rfl, ?_⟩
      refine iteT (iteT ?_)
      have z : isItem d = false := by
        cases d with
        | tuple ds => exact absurd rfl (no ds)
        | _ => rfl
      rw [z] at q
      exact q _ (Same.refl _)
end
end My

namespace My
open PySem PySem.Spec PyProof.Rows L2 Gy Xl Xs Xt
/-- a class of errors with one field: raised -/
structure Rz (P : Program) (w : World) (K : PySem.W.Frag) (mg : Str → Option Value) (base : Heap) (nm f : Str) (C : Addr) : Prop where
  gm : mg nm = some (.ref C)
  ty : PySem.W.typeIn K (.ref C) = some (.type "type")
  ex : ∃ (fI : Addr) (fd : FuncData), XIn K C fI ∧ FnOk P w K mg base CX0 1 fI fd ["self", f] (spI1 C f) ∧ XB K fd ["self", f] [] (fun us _ => us) (fun vs _ => vs)
/-- what is wanted where C(v) is raised -/
def Ro (E : XK) (C : Addr) (f : Str) (v : V) (H : Hp) : Prop := ∀ H' dx, Same H H' → H' dx = some (.xd [(f, v)]) → E (.ref C) (some dx) H'
theorem Ro.same {E : XK} {C : Addr} {f : Str} {v : V} {H H1 : Hp} (h : Ro E C f v H) (s : Same H H1) : Ro E C f v H1 := fun H' dx s1 e => h H' dx (s.trans s1) e
/-- the data of a relink -/
def reld (xs : List Str) (c : Nat) : PyData := .tuple [.tuple (xs.map PyData.str), .int (c : Int)]
theorem rel_parts {d : PyData} (h : isRel d = true) : ∃ (xs : List Str) (c : Nat), d = reld xs c ∧ 3 ≤ xs.length ∧ xs.Nodup ∧ c + 2 ≤ xs.length ∧ (xs.map PyData.str).all isHost = true := by
  match d, h with
  | .tuple [.tuple ds, c], h =>
    have h2 : isPath (.tuple ds) = true ∧ isIdx ((ds.length : Int) - 1) c = true := by simpa only [isRel, Bool.and_eq_true] using h
    have h3 := h2.1
    rw [isPath_t, Bool.and_eq_true, Bool.and_eq_true, decide_eq_true_eq, decide_eq_true_eq] at h3
    obtain ⟨l3, ah, nd⟩ := h3
    have e := txts_all ah
    have el : ds.length = (txts ds).length := by
      have := congrArg List.length e
      rw [List.length_map] at this
      exact this
    match c, h2.2 with
    | .int i, hc =>
      rw [isIdx_i, Bool.and_eq_true, decide_eq_true_eq, decide_eq_true_eq] at hc
      obtain ⟨j, rfl⟩ := Int.eq_ofNat_of_zero_le hc.1
      refine ⟨txts ds, j, ?_, by omega, nd, by omega, by rw [← e]; exact ah⟩
      unfold reld
      rw [← e]
section
variable {P : Program} {w : World} {K : PySem.W.Frag} {mg : Str → Option Value} {base : Heap} {H : Hp}
theorem rel_heap {v : V} {xs : List Str} {c : Nat} (h : Dn K H v (reld xs c)) : ∃ a b, v = .ref a ∧ Tz H a [.ref b, .int (c : Int)] ∧ Tz H b (xs.map V.str) := by
  cases h with
  | tup ha hs =>
    cases hs with
    | cons h1 h2 =>
      cases h2 with
      | cons h2 h3 =>
        cases h3
        cases h1 with
        | tup hb hx =>
          cases h2
          have e := Dns.txts hx
          subst e
          exact ⟨_, _, rfl, ha, hb⟩
theorem at_nat {xs : List Str} {i : Nat} (h : i < xs.length) : atI (xs.map V.str) (i : Int) = some (.str (xs.getD i "")) := by
  refine atI_nat ?_
  rw [List.getElem?_map, List.getD_eq_getElem?_getD, List.getElem?_eq_getElem h]
  rfl
theorem at_end {xs : List Str} (h : 0 < xs.length) : atI (xs.map V.str) (-1) = some (.str (xs.getD (xs.length - 1) "")) := by
  have ne : xs ≠ [] := fun z => by rw [z] at h; cases h
  have e := List.dropLast_concat_getLast ne
  have g : xs.getD (xs.length - 1) "" = xs.getLast ne := by
    rw [List.getD_eq_getElem?_getD, List.getElem?_eq_getElem (by omega), List.getLast_eq_getElem]
    rfl
  rw [g]
  conv => lhs; rw [← e]
  rw [List.map_append]
  exact atI_last _ _
def spChk (K : PySem.W.Frag) (C : Addr) : Sp := fun vs H Q E => ∃ (v : V) (d : PyData), vs = [v] ∧ Dn K H v d ∧ sml d = true ∧ (isRel d = true → ∀ H', Same H H' → Q .non H') ∧ (isRel d = false → Ro E C "value" v H)
theorem ok_chk {f C : Addr} {fd : FuncData} (F : Fun K "check_relink" "check_relink" s_check_relink f fd) (R : Rz P w K mg base "InvalidRelink" "value" C)
    (G_is_relink : Fk P w K mg base CX0 4 "is_relink" ["value"] (spRel K)) : FnOk P w K mg base (L2.CX P w) 5 f fd ["value"] (spChk K C) := by
  obtain ⟨fI, fdI, XI, GI, bI⟩ := R.ex
  refine F.okX sc_check_relink (fun vs H Q E h => ?_) (fun cdv A outer s H vs Q E hr h => ?_)
  · obtain ⟨v, d, rfl, _⟩ := h
    rfl
  · obtain ⟨v, d, rfl, dn, sm, q1, q2⟩ := h
    refine ⟨_, (pss_one (ps_if (pt_not (pt_val (pe_callF G_is_relink (hr.mono (by decide)) (by rfl) pass0 (pa_cons (pv 0) pa_nil))))
 (pss_one (ps_raise1 rfl (takes_of rfl rfl rfl rfl) XI R.ty GI (hr.mono (by decide)) bI (by rfl) R.gm (pa_cons (pv 0) pa_nil)))
 pss_nil)), ?_⟩
    refine ⟨_, rfl, v, d, rfl, dn, sm, fun H1 s1 => ⟨_, rfl, ?_⟩⟩
    cases c : isRel d with
    | true => exact iteF (q1 c _ s1)
    | false =>
      refine iteT ⟨_, rfl, v, rfl, fun dx nd => ?_⟩
      exact q2 c _ dx (s1.trans (same_upd nd)) upd_same
/-! ### the place of a host -/
def posn (xs : List Str) : PyData → Option Nat
  | .str x => if x ∈ xs then some (xs.idxOf x) else none
  | _ => none
/-- a query of a relink and a host -/
def spQh (K : PySem.W.Frag) (C U : Addr) (g : Nat → Nat → V) : Sp := fun vs H Q E => ∃ (v h : V) (d e : PyData), vs = [v, h] ∧ Dn K H v d ∧ sml d = true ∧ Dn K H h e ∧ sml e = true ∧ (isRel d = false → Ro E C "value" v H) ∧
  ∀ xs c, d = reld xs c → isRel d = true → (∀ j, posn xs e = some j → ∀ H', Same H H' → Q (g j c) H') ∧ (posn xs e = none → Ro E U "host" h H)
theorem ok_pos {f C U : Addr} {fd : FuncData} (F : Fun K "position" "position" s_position f fd) (R : Rz P w K mg base "UnknownHost" "host" U) (G_check_relink : Fk P w K mg base (L2.CX P w) 5 "check_relink" ["value"] (spChk K C))
    (G_is_host_name : Fk P w K mg base CX0 2 "is_host_name" ["value"] (spHost K)) : FnOk P w K mg base (L2.CX P w) 6 f fd ["relink", "host"] (spQh K C U fun j _ => .int (j : Int)) := by
  obtain ⟨fI, fdI, XI, GI, bI⟩ := R.ex
  refine F.okX sc_position (fun vs H Q E h => ?_) (fun cdv A outer s H vs Q E hr h => ?_)
  · obtain ⟨v, h, d, e, rfl, _⟩ := h
    rfl
  · obtain ⟨v, h, d, e, rfl, dn, sm, dh, sh, q2, q1⟩ := h
    refine ⟨_, (pss_cons (ps_expr (pe_callF G_check_relink (hr.mono (by decide)) (by rfl) (passes_call (E := E) (takes_of rfl rfl rfl rfl) (fun _ _ _ _ h => h)) (pa_cons (pv 0) pa_nil)))
 (pss_cons (ps_set (i := 2) sc_position.nd rfl (.inl rfl) (pe_ix ix_tup (pv 0) pe_int (fun _ _ => rfl)))
 (pss_cons (ps_if (PW.pt (pw_or (pt_not (pt_val (pe_callF G_is_host_name (hr.mono (by decide)) (by rfl) pass0 (pa_cons (pv 1) pa_nil)))) (pw_or1 (pt_cmpR op_notIn_seq (pv 1) (pv 2) rfl))))
 (pss_one (ps_raise1 rfl (takes_of rfl rfl rfl rfl) XI R.ty GI (hr.mono (by decide)) bI (by rfl) R.gm (pa_cons (pv 1) pa_nil)))
 pss_nil)
 (pss_one (ps_ret (pe_tm PySem.F.slot_tuple_index PySem.F.type_tuple_index mt_tup_index (pv 2) (pa_cons (pv 1) pa_nil))))))), ?_⟩
    refine ⟨_, rfl, v, d, rfl, dn, sm, fun c H1 s1 => ?_, q2⟩
    obtain ⟨xs, k, rfl, l3, nd, kl, ah⟩ := rel_parts c
    obtain ⟨a, b, rfl, ha, hb⟩ := rel_heap dn
    have ha1 := ha.same s1
    obtain ⟨q3, q4⟩ := q1 xs k rfl c
    refine ⟨_, rfl, a, _, 0, .ref b, rfl, rfl, ha1.sq, atI_nat (j := 0) rfl, ?_⟩
    refine ⟨_, rfl, h, rfl, kd_dn (dh.same s1) sh, fun H2 s2 => ?_⟩
    have s02 := s1.trans s2
    have hb2 := hb.same s02
    rw [host_dn dh]
    refine ⟨_, rfl, ?_⟩
    cases ce : isHost e with
    | false =>
      refine iteT (iteT ⟨_, rfl, h, rfl, fun dx nx => ?_⟩)
      have no : posn xs e = none := by
        cases e with
        | str x =>
          refine if_neg fun m => ?_
          rw [List.all_eq_true] at ah
          rw [ah _ (List.mem_map_of_mem m)] at ce
          cases ce
        | _ => rfl
      exact q4 no _ dx (s02.trans (same_upd nx)) upd_same
    | true =>
      refine iteF ?_
      cases dh with
      | str x =>
        refine ⟨_, rfl, _, rfl, b, _, rfl, .inr (hb2.sq), rfl, flat_strs xs, _, rfl, ite2 (fun c9 => ?_) (fun c9 => ?_)⟩
        · have c9' : (!inV (.str x) (xs.map V.str)) = true := c9
          rw [inV_strs] at c9'
          have no : posn xs (.str x) = none := if_neg fun m => by
            rw [decide_eq_true m] at c9'
            cases c9'
          exact ⟨_, rfl, _, rfl, fun dx nx => q4 no _ dx (s02.trans (same_upd nx)) upd_same⟩
        · have c9' : ¬ (!inV (.str x) (xs.map V.str)) = true := c9
          rw [inV_strs] at c9'
          have m : x ∈ xs := by
            cases z : decide (x ∈ xs) with
            | true => exact of_decide_eq_true z
            | false => exact absurd (by rw [z]; rfl) c9'
          have lt := List.idxOf_lt_length_of_mem m
          refine ⟨_, rfl, ⟨b, _, rfl, hb2⟩, _, rfl, b, xs, x, xs.idxOf x, rfl, rfl, hb2.sq, ?_, ?_, q3 _ (if_pos m) _ s02⟩
          · rw [List.getElem?_eq_getElem lt, List.getElem_idxOf]
          · intro j lj ej
            have lj2 : j < xs.length := Nat.lt_trans lj lt
            rw [List.getElem?_eq_getElem lj2] at ej
            injection ej with ej
            refine absurd (ej.trans (List.getElem_idxOf lt).symm) (List.pairwise_iff_getElem.mp nd j _ lj2 lt lj)
      | _ => cases ce
end
end My

namespace My
open PySem PySem.Spec PyProof.Rows L2 Gy Xl Xs Xt
theorem le400 {n : Nat} (h : n ≤ 10000) : n ≤ sizeLine := Nat.le_trans h (by decide)
section
variable {P : Program} {w : World} {K : PySem.W.Frag} {mg : Str → Option Value} {base : Heap} {H : Hp}
def spChkI (K : PySem.W.Frag) (C : Addr) : Sp := fun vs H Q E => ∃ (v : V) (d : PyData), vs = [v] ∧ Dn K H v d ∧ sml d = true ∧ (isItem d = true → ∀ H', Same H H' → Q .non H') ∧ (isItem d = false → Ro E C "value" v H)
theorem ok_chkI {f C : Addr} {fd : FuncData} (F : Fun K "check_item" "check_item" s_check_item f fd) (R : Rz P w K mg base "InvalidItem" "value" C)
    (G_is_item : Fk P w K mg base CX0 5 "is_item" ["value"] (spItem K)) : FnOk P w K mg base (L2.CX P w) 6 f fd ["value"] (spChkI K C) := by
  obtain ⟨fI, fdI, XI, GI, bI⟩ := R.ex
  refine F.okX sc_check_item (fun vs H Q E h => ?_) (fun cdv A outer s H vs Q E hr h => ?_)
  · obtain ⟨v, d, rfl, _⟩ := h
    rfl
  · obtain ⟨v, d, rfl, dn, sm, q1, q2⟩ := h
    refine ⟨_, (pss_one (ps_if (pt_not (pt_val (pe_callF G_is_item (hr.mono (by decide)) (by rfl) pass0 (pa_cons (pv 0) pa_nil))))
 (pss_one (ps_raise1 rfl (takes_of rfl rfl rfl rfl) XI R.ty GI (hr.mono (by decide)) bI (by rfl) R.gm (pa_cons (pv 0) pa_nil)))
 pss_nil)), ?_⟩
    refine ⟨_, rfl, v, d, rfl, dn, sm, fun H1 s1 => ⟨_, rfl, ?_⟩⟩
    cases c : isItem d with
    | true => exact iteF (q1 c _ s1)
    | false =>
      refine iteT ⟨_, rfl, v, rfl, fun dx nd => ?_⟩
      exact q2 c _ dx (s1.trans (same_upd nd)) upd_same
end
end My

namespace My
open PySem PySem.Spec PyProof.Rows L2 Gy Xl Xs Xt
/-! ### data without lists stands while lists change -/
/-- what was frozen -/
def fz (H : Hp) : Hp := fun a => match H a with
  | some (.frz o u) => some (.frz o u)
  | _ => none
theorem fz_of {H : Hp} {a : Addr} {o : Obj} {u : HO} (h : H a = some (.frz o u)) : fz H a = some (.frz o u) := by
  unfold fz
  rw [h]
theorem of_fz {H : Hp} {a : Addr} {x : HO} (h : fz H a = some x) : H a = some x ∧ ∃ o u, x = .frz o u := by
  unfold fz at h
  split at h
  · next o u e =>
    injection h with h
    subst h
    exact ⟨e, _, _, rfl⟩
  · cases h
theorem fz_same (H : Hp) : Same (fz H) H := fun b o e => (of_fz e).1
/-- frozen objects stand -/
def FzK (H H' : Hp) : Prop := ∀ b o u, H b = some (.frz o u) → H' b = some (.frz o u)
theorem FzK.refl (H : Hp) : FzK H H := fun _ _ _ e => e
theorem FzK.trans {H H1 H2 : Hp} (a : FzK H H1) (b : FzK H1 H2) : FzK H H2 := fun c o u e => b c o u (a c o u e)
theorem FzK.of {H H' : Hp} (s : Same H H') : FzK H H' := fun b o u e => s b _ e
theorem FzK.upd {H H' : Hp} {a : Addr} {v w : HO} (k : FzK H H') (h : H a = some v) (n : ∀ o u, v ≠ .frz o u) : FzK H (L2.upd H' a w) := fun b o u e => by
  rw [upd_ne fun z => ?_]
  · exact k b o u e
  · rw [z, h] at e
    injection e with e
    exact n o u e
theorem FzK.updN {H H' : Hp} {a : Addr} {w : HO} (k : FzK H H') (n : H a = none) : FzK H (L2.upd H' a w) := fun b o u e => by
  rw [upd_ne (ne_of_none e n)]
  exact k b o u e
theorem fz_keep {H H' : Hp} (h : FzK H H') : Same (fz H) (fz H') := fun b x e => by
  obtain ⟨e1, o, u, rfl⟩ := of_fz e
  exact fz_of (h b o u e1)
mutual
def noL : PyData → Bool
  | .list _ => false
  | .dict _ => false
  | .tuple ds => noLs ds
  | _ => true
def noLs : List PyData → Bool
  | [] => true
  | d :: ds => noL d && noLs ds
end
theorem Tz.fz {H : Hp} {a : Addr} {xs : List V} (h : Tz H a xs) : Tz (My.fz H) a xs := by
  obtain ⟨o, e, c⟩ := h
  exact ⟨o, fz_of e, c⟩
mutual
theorem dn_fz {K : PySem.W.Frag} {H : Hp} : ∀ {v : V} {d : PyData}, Dn K H v d → noL d = true → Dn K (fz H) v d
  | _, _, .non, _ => .non
  | _, _, .bl b, _ => .bl b
  | _, _, .int i, _ => .int i
  | _, _, .str x, _ => .str x
  | _, _, .lst h a, n => nomatch n
  | _, _, .tup h a, n => .tup (Tz.fz h) (dns_fz a n)
  | _, _, .dic h, n => nomatch n
  | _, _, .dic1 h, n => nomatch n
theorem dns_fz {K : PySem.W.Frag} {H : Hp} : ∀ {vs : List V} {ds : List PyData}, Dns K H vs ds → noLs ds = true → Dns K (fz H) vs ds
  | _, _, .nil, _ => .nil
  | _, _, .cons (d := d) (ds := ds) h t, n => by
    have n2 : noL d = true ∧ noLs ds = true := by simpa only [noLs, Bool.and_eq_true] using n
    exact .cons (dn_fz h n2.1) (dns_fz t n2.2)
end
theorem host_str {d : PyData} (h : isHost d = true) : noL d = true := by
  cases d with
  | str x => rfl
  | _ => exact absurd (show false = true from h) (by decide)
theorem word_str {d : PyData} (h : isWord d = true) : noL d = true := by
  cases d with
  | str x => rfl
  | _ => exact absurd (show false = true from h) (by decide)
theorem idx_noL {n : Int} {d : PyData} (h : isIdx n d = true) : noL d = true := by
  cases d with
  | int i => rfl
  | _ => exact absurd (show false = true from h) (by decide)
theorem hosts_noL : ∀ {ds : List PyData}, ds.all isHost = true → noLs ds = true
  | [], _ => rfl
  | d :: ds, h => by
    have h2 : isHost d = true ∧ ds.all isHost = true := by simpa only [List.all_cons, Bool.and_eq_true] using h
    show (noL d && noLs ds) = true
    rw [host_str h2.1, hosts_noL h2.2]
    rfl
theorem item_noL {d : PyData} (h : isItem d = true) : noL d = true := by
  match d, h with
  | .tuple (.str k :: ds), h =>
    show (true && noLs ds) = true
    rw [Bool.true_and]
    have h1 : (if k = "message" then isMsg ds else if k = "bye" then ds.isEmpty else decide (k ∈ KINDS) && isRel (.tuple ds)) = true := h
    split at h1
    · match ds, h1 with
      | [w, x, b], h1 =>
        have h2 : isHost w = true ∧ isWord x = true ∧ isIdx 2 b = true := by simpa only [isMsg, Bool.and_eq_true] using h1
        show (noL w && (noL x && (noL b && true))) = true
        rw [host_str h2.1, word_str h2.2.1, idx_noL h2.2.2]
        rfl
    · split at h1
      · match ds, h1 with
        | [], _ => rfl
      · have h2 : isRel (.tuple ds) = true := by
          simp only [Bool.and_eq_true] at h1
          exact h1.2
        match ds, h2 with
        | [.tuple es, c], h2 =>
          have h3 : isPath (.tuple es) = true ∧ isIdx ((es.length : Int) - 1) c = true := by simpa only [isRel, Bool.and_eq_true] using h2
          have h4 : decide (3 ≤ es.length) = true ∧ es.all isHost = true ∧ decide ((txts es).Nodup) = true := by simpa only [isPath, Bool.and_eq_true] using h3.1
          show (noLs es && (noL c && true)) = true
          rw [hosts_noL h4.2.1, idx_noL h3.2]
          rfl
end My

/-! sorted of a tuple of texts. -/
namespace Xt
open PySem PySem.Spec PyProof.Rows L2 Gy
section
variable {prog : Program} {w : World} {A : Around} {E : Value → Shared → Prop} {s : Shared}
theorem isTup_get {h : Heap} {a : Addr} {xs : Array Value} (t : h.IsTuple a xs) : ∃ o n, h.get? a = some o ∧ o.cls = .type "tuple" ∧ o.data = .seq xs n := by
  obtain ⟨o, ho, hc, n, hd⟩ := t
  exact ⟨o, n, ho, hc, hd⟩
/-- the heap behind the items of a tuple were taken -/
def took (h : Heap) (vs : List Value) : Heap := Heap.update (h.push (seqObj "list" #[] 0)) h.objs.size (Obj.mapSeq (· ++ vs.toArray))
theorem collect_tup {l : Addr} {vs : List Value} {o : Obj} {n : Nat} {Q : List Value → Shared → Prop} (ho : s.heap.get? l = some o) (hc : o.cls = .type "tuple") (hd : o.data = .seq vs.toArray n) (hz : vs.length ≤ sizeLine)
    (h : Q vs { s with heap := took s.heap vs }) : wpAny (model prog w) A (collect (.ref l)) Q E s := by
  unfold collect
  have new := Heap.get?_push_size (h := s.heap) (o := seqObj "list" #[] 0)
  refine wpAny_bind (wpAny_runValue (codeAny_builtin entry_proto_collect' ?_))
  show wpAny _ _ (newList [] >>= fun r => again (.builtin "list.__iadd__" ⟨[r, .ref l], []⟩)) _ _ s
  refine wpAny_bind (wpAny_newList (wpAny_pure ⟨Code.quiet_builtin _ (by decide +kernel), codeAny_builtin entry_list_iadd' ?_⟩))
  refine (?_ : wpAny _ _ (Builtin.List.listExtendWith _ (.ref l) _) _ _ _)
  unfold Builtin.List.listExtendWith
  have hold : Heap.get? (s.heap.push (seqObj "list" #[] 0)) l = some o := Heap.get?_push_of_some _ ho
  refine wpAny_bind (wpAny_typeOf (T := "tuple") ⟨o, hold, hc⟩ ?_)
  rw [if_pos (by rw [show (Value.type "tuple" == Value.type "tuple") = true by rfl]; simp)]
  refine wpAny_bind (listItems_at hold hd ?_)
  refine wpAny_bind (listItems_at (n := 0) (xs := #[]) (Heap.get?_push_size s.heap rfl) rfl ?_)
  rw [if_neg (by simp)]
  refine wpAny_bind (listUpdate_at (n := 0) (xs := #[]) (Heap.get?_push_size s.heap rfl) rfl ?_ (Nat.zero_le _) ?_)
  · refine wpAny_pure ?_
    refine wpAny_bind (wpAny_load (get?_update_seq (Heap.get?_push_size s.heap rfl) _) ?_)
    refine wpAny_pure ?_
    have e : ((#[] : Array Value) ++ vs.toArray).toList = vs := by simp
    rw [e]
    exact h
  · rw [Array.size_append, List.size_toArray]
    show 0 + vs.length ≤ sizeLine + 1
    omega
theorem sorted_tup {l : Addr} {vs : List Value} {ss : List Str} {o : Obj} {n : Nat} {Q : Value → Shared → Prop} (ho : s.heap.get? l = some o) (hc : o.cls = .type "tuple") (hd : o.data = .seq vs.toArray n) (hS : StrsAre vs ss) (h64 : vs.length < 64)
    (h : ∀ (out : Array Value) (zs : List Str), StrsAre out.toList zs → zs.Perm ss → sortedS zs = true → Q (.ref (s.heap.objs.size + 1)) { s with heap := sortedAll s.heap vs out }) :
    wpAny (model prog w) A (call (.builtin "sorted") [.ref l]) Q E s := by
  refine Calls.call_function_entry kind_sorted plain_sorted entry_sorted (args_sorted1 _) ?_
  unfold Builtin.«sorted»
  refine wpAny_bind (m := checkCount "sorted" 1 1 _) (wpAny_pure ?_)
  refine wpAny_bind (collect_tup ho hc hd (small64 h64) ?_)
  refine wpAny_bind (wpAny_newList ?_)
  have sz : (took s.heap vs).objs.size = s.heap.objs.size + 1 := (Heap.size_update ..).trans (size_push' ..)
  have at1 : Heap.get? ((took s.heap vs).push (seqObj "list" vs.toArray 0)) (s.heap.objs.size + 1) = some (seqObj "list" vs.toArray 0) := by
    rw [← sz]
    exact Heap.get?_push_size _ rfl
  refine (?_ : wpAny _ _ _ _ _ { s with heap := (took s.heap vs).push (seqObj "list" vs.toArray 0) })
  dsimp only
  rw [sz]
  refine wpAny_bind (wpAny_holding (wpAny_call_entry slot_list_sort ⟨_, at1, rfl⟩ entry_list_sort (list_sort_treeK strKind_oneLt at1 hS.keysOf (fun v₁ v₂ rest e => keyKind_strs (by rw [← e]; exact hS)) h64 fun st hp hs => ⟨_, rfl, ?_⟩) (args_list_sort _)))
  obtain ⟨zs, h1, h2, h3⟩ := sorted_out_str hS hp hs
  exact wpAny_pure ⟨_, rfl, h _ zs h1 h2 h3⟩
end
section
variable {X : Cx}
/-- sorted of a list or a tuple of texts -/
def rSortX (K : PySem.W.Frag) : List V → Hp → VK → Prop := fun vs H Q => ∃ (a : Addr) (xs : List Str), vs = [.ref a] ∧ (SqL K H a (xs.map V.str) ∨ SqT K H a (xs.map V.str)) ∧ xs.length < 64 ∧
  ∀ (ys : List Str) (p : Addr), ys.Perm xs → sortedS ys = true → H p = none → Q (.ref p) (upd H p (.lst (ys.map V.str)))
theorem cr_sortX : CallR X (.builtin "sorted") (rSortX X.K) := by
  intro pins s σ H vs us Q I r h
  obtain ⟨a, xs, rfl, hs | hs, h64, q⟩ := h
  · exact cr_sortedS pins s σ H _ us Q I r ⟨a, xs, rfl, hs, h64, q⟩
  · obtain ⟨its, rv, ⟨o, ho, hc, n, hd⟩, _⟩ := I.tuple hs
    rw [Vals.ref1 r]
    have len := rv.length
    rw [List.length_map] at len
    refine sorted_tup ho hc hd rv.strs (by rw [← len]; exact h64) fun out ys h1 h2 h3 => ?_
    obtain ⟨ep, he⟩ := PyProof.Rows.sortedAll_at s.heap its out
    have lz : (ys.map V.str).length ≤ sizeLine := by
      rw [List.length_map, h2.length_eq]
      exact small64 h64
    exact ⟨.ref _, upd H (s.heap.objs.size + 1) (.lst (ys.map V.str)), I.laid (t' := s.toks) (fun _ _ => PyProof.Rows.sortedAll_old) (Nat.le_succ _) ⟨lz, out.toList, ep, vals_of_strs h1, he⟩, rfl, q ys _ h2 h3 (I.hok.fresh (Nat.le_succ _))⟩
end
end Xt

/-! sorted(set(xs)), xs a list or a tuple of texts. -/
namespace Xs
open PySem PySem.Spec PyProof.Rows L2 Gy Xt
/-- the text of a set's row -/
def rowX (e : Int × Value) : Str := match e.2 with
  | .str x _ => x
  | _ => Str.empty
def IsRow (P : Program) (w : World) (e : Int × Value) : Prop := ∃ x tk, e = ((strKind P w).hash x, Value.str x tk)
/-- the rows of a set of texts, and how they lie -/
structure Rws (P : Program) (w : World) (xs : List Str) (es : Array (Int × Value)) (t : SetTable) : Prop where
  rows : ∀ e ∈ es.toList, IsRow P w e
  nd : (es.toList.map rowX).Nodup
  mem : ∀ x, x ∈ es.toList.map rowX ↔ x ∈ xs
  few : es.size ≤ xs.length
  room : es.size < scanBound
  fit : t.fits es.size = true
  ris : Ris t.place.toList
  led : w.params.followText "set-order" = true ∨ t.led = true
def Txs (P : Program) (w : World) (h : Heap) (a : Addr) (xs : List Str) : Prop := ∃ o es ep t, h.get? a = some o ∧ o.ExactSet ∧ o.data = .set es ep t ∧ Rws P w xs es t
theorem rows_elems {P : Program} {w : World} {l : List (Int × Value)} (h : ∀ e ∈ l, IsRow P w e) : ElemsOf (strKind P w) l := fun e he => by
  obtain ⟨x, tk, rfl⟩ := h e he
  exact ⟨⟨x, strKind_is _ _ _ _, rfl⟩, rfl⟩
section
variable {P : Program} {w : World} {A : Around} {E : Value → Shared → Prop} {s : Shared} {a : Addr} {xs : List Str}
/-- the rows are stored, and laid anew if the table is too full -/
theorem store_rows {g : Bool → Sem Unit} (gq : ∀ (b : Bool) (s1 : Shared) (Q' : Unit → Shared → Prop), Q' () s1 → wpAny (model P w) A (g b) Q' E s1) {o : Obj} {es ens : Array (Int × Value)} {ep : Nat} {t tn : SetTable} (ho : s.heap.get? a = some o) (hx : o.ExactSet)
    (hd : o.data = .set es ep t) (R : Rws P w xs ens tn) {dm : Bool} {Z : Option Bool → Shared → Prop} (fin : ∀ h', Heap.SameBut a s.heap h' → Txs P w h' a xs → Z (some true) { s with heap := h' }) :
    wpAny (model P w) A (do
        storeSet a ens tn
        if (!dm && tn.tooFull) = true then do
            g (relayAll tn ens (SetTable.grown ens.size)).2.2
            storeSet a (relayAll tn ens (SetTable.grown ens.size)).1 (relayAll tn ens (SetTable.grown ens.size)).2.1
            pure (some true)
          else pure (some true)) Z E s := by
  have g1 := store_at (es' := ens) (t' := tn) ho hd
  have b1 := Heap.SameBut.update s.heap a (Obj.putSet ens tn)
  refine wpAny_bind (wpAny_storeSet_of ho hd ?_ (fits_of_scanBound R.room))
  by_cases c : (!dm && tn.tooFull) = true
  · rw [if_pos c]
    have p := relayAll_perm tn ens (SetTable.grown ens.size)
    have f3 := relayAll_fits tn ens (SetTable.grown ens.size)
    have i3 := relayAll_ris tn ens (SetTable.grown ens.size)
    have l3 := relayAll_led tn ens (SetTable.grown ens.size)
    generalize relayAll tn ens (SetTable.grown ens.size) = Y at p f3 i3 l3 ⊢
    have sz : Y.1.size = ens.size := by
      have := p.length_eq
      simpa using this
    have rm : Y.1.size < scanBound := by rw [sz]; exact R.room
    refine wpAny_bind (gq _ _ _ ?_)
    refine wpAny_bind (wpAny_storeSet_of g1 rfl ?_ (fits_of_scanBound rm))
    refine wpAny_pure (fin _ (b1.trans (Heap.SameBut.update _ a _)) ⟨_, Y.1, _, Y.2.1, store_at g1 rfl, hx, rfl, ?_⟩)
    exact ⟨fun e he => R.rows e (p.mem_iff.mp he), (p.map rowX).nodup_iff.mpr R.nd, fun x => ((p.map rowX).mem_iff).trans (R.mem x), by rw [sz]; exact R.few, rm, f3, i3, R.led.imp id fun z => by rw [l3]; exact z⟩
  · rw [if_neg c]
    exact wpAny_pure (fin _ b1 ⟨_, ens, _, tn, g1, hx, rfl, R⟩)
/-- one text more -/
theorem add_txt {x : Str} {tk : Tok} {Q : Bool → Shared → Prop} (R : Txs P w s.heap a xs) (room : xs.length + 1 < scanBound) (fin : ∀ h' b, Heap.SameBut a s.heap h' → Txs P w h' a (xs ++ [x]) → Q b { s with heap := h' }) :
    wpAny (model P w) A (setAddHashed a (.str x tk) ((strKind P w).hash x)) Q E s := by
  obtain ⟨o, es, ep, t, ho, hx, hd, r⟩ := R
  have key := strKind_is P w x tk
  have sc : (Value.str x tk).scannable = true := rfl
  have el := rows_elems r.rows
  have few := r.few
  unfold setAddHashed setAddHashedIn
  refine wpAny_holding (wpAny_bind (wpAny_setState_of ho hd r.fit ?_))
  dsimp only
  rw [byScan_of sc r.room el]
  simp only [↓reduceIte]
  unfold setAddByScan
  refine wpAny_bind (wpAny_bind (wpAny_rule (wpAny_bind (wpAny_setScan_of key ho hd r.fit el ?_))))
  cases fi : List.findIdx? (fun e => (strKind P w).is x e.2) es.toList with
  | some j =>
    dsimp only
    obtain ⟨lt, hit, _⟩ := List.findIdx?_eq_some_iff_getElem.mp fi
    have mx : x ∈ xs := by
      refine (r.mem x).mp (List.mem_map.mpr ⟨es.toList[j], List.getElem_mem lt, ?_⟩)
      obtain ⟨y, ty, ey⟩ := r.rows _ (List.getElem_mem lt)
      rw [ey] at hit ⊢
      have := (strKind P w).inj _ _ _ hit (strKind_is P w y ty)
      exact this.symm
    refine wpAny_pure (wpAny_pure (fin s.heap _ (Heap.SameBut.refl a s.heap) ⟨o, es, ep, t, ho, hx, hd, r.rows, r.nd, fun y => ?_, by rw [List.length_append]; omega, r.room, r.fit, r.ris, r.led⟩))
    rw [r.mem y, List.mem_append, List.mem_singleton]
    exact ⟨.inl, fun z => z.elim id fun e => e ▸ mx⟩
  | none =>
    dsimp only
    have nx : x ∉ es.toList.map rowX := fun z => by
      obtain ⟨e, he, ex⟩ := List.mem_map.mp z
      have no := List.findIdx?_eq_none_iff.mp fi e he
      obtain ⟨y, ty, rfl⟩ := r.rows e he
      have e2 : y = x := ex
      rw [e2, strKind_is] at no
      cases no
    have pm := layNew_perm t es ((strKind P w).hash x) (.str x tk)
    have f1 := layNew_fits t es ((strKind P w).hash x) (.str x tk)
    have i1 := layNew_ris t es ((strKind P w).hash x) (.str x tk) r.ris
    have l1 := layNew_led t es ((strKind P w).hash x) (.str x tk)
    generalize layNew t es ((strKind P w).hash x) (.str x tk) = Y at pm f1 i1 l1 ⊢
    obtain ⟨ens, tn, dm, gv⟩ := Y
    dsimp only at pm f1 i1 l1 ⊢
    have pc : ens.toList.Perm (((strKind P w).hash x, Value.str x tk) :: es.toList) := by
      rw [Array.toList_push] at pm
      exact pm.trans (List.perm_append_singleton _ _)
    have px : (ens.toList.map rowX).Perm (x :: es.toList.map rowX) := pc.map rowX
    have sz : ens.size = es.size + 1 := by
      have := pc.length_eq
      simpa using this
    have rw1 : ∀ {tt : SetTable}, tt.fits ens.size = true → Ris tt.place.toList → tt.led = t.led → Rws P w (xs ++ [x]) ens tt := fun {tt} ff ii ll => by
      refine ⟨fun e he => ?_, px.nodup_iff.mpr (List.nodup_cons.mpr ⟨nx, r.nd⟩), fun y => ?_, by rw [sz, List.length_append]; exact Nat.succ_le_succ few, by rw [sz]; omega, ff, ii, r.led.imp id fun z => by rw [ll]; exact z⟩
      · rcases List.mem_cons.mp (pc.mem_iff.mp he) with z | z
        · exact ⟨x, tk, z⟩
        · exact r.rows e z
      · rw [px.mem_iff, List.mem_cons, r.mem y, List.mem_append, List.mem_singleton]
        exact Or.comm
    have gw : ∀ (b : Bool) (s1 : Shared) (Q' : Unit → Shared → Prop), Q' () s1 → wpAny (model P w) A (match b with | true => rule "set.scan.the-table-gave-way" | false => pure ()) Q' E s1 := fun b s1 Q' q => by
      cases b
      · exact wpAny_pure q
      · exact wpAny_rule q
    refine wpAny_bind (gw _ _ _ ?_)
    split
    · refine wpAny_bind ?_
      rw [hashByValue_scannable 8 sc]
      refine wpAny_pure ?_
      refine store_rows (xs := xs ++ [x]) ?_ ho hx hd ?_ ?_
      · exact gw
      · refine rw1 ?_ ?_ ?_
        · first | exact f1 | (split <;> first | exact f1 | exact SetTable.fits_plain_off f1)
        · first | exact i1 | (split <;> exact i1)
        · first | exact l1 | (split <;> exact l1)
      · intro h' sb q
        dsimp only
        exact wpAny_pure (fin h' _ sb q)
    · refine wpAny_bind (wpAny_pure ?_)
      simp only [↓reduceIte]
      refine store_rows (xs := xs ++ [x]) gw ho hx hd (rw1 f1 i1 l1) fun h' sb q => ?_
      dsimp only
      exact wpAny_pure (fin h' _ sb q)
end
end Xs

/-! sorted(set(xs)), xs a list or a tuple of texts: the set is made, and sorted. -/
namespace Xs
open PySem PySem.Spec PyProof.Rows L2 Gy Xt
abbrev setL (w : World) : Obj := set0 (!w.params.followText "set-order")
theorem txs_new {P : Program} {w : World} {h : Heap} {a : Addr} (e : h.get? a = some (setL w)) : Txs P w h a [] := by
  refine ⟨_, #[], 0, _, e, ⟨rfl, rfl, rfl⟩, rfl, (fun e he => nomatch he), List.nodup_nil, (fun x => Iff.rfl), Nat.le_refl _, by decide, rfl, List.Pairwise.nil, ?_⟩
  show _ ∨ (!w.params.followText "set-order") = true
  cases w.params.followText "set-order" with
  | true => exact .inl rfl
  | false => exact .inr rfl
section
variable {P : Program} {w : World} {A : Around} {R : Result → Shared → Prop} {J : Addr} {fp wr : List Addr} {G : Array GenState → Array GenState → Prop} {n : Nat} {Y : Nat → Value → Prop} {Z : Nat → Shared → Prop}
/-- the set takes text after text -/
theorem take_txs (W : WalksS P w A.in1 J fp wr G n Y Z) (S : Addr) (out : S ∉ fp) (xs : List Str) (len : xs.length = n) (room : n + 1 < scanBound) (val : ∀ i v, Y i v → ∃ t, v = .str (xs.getD i Str.empty) t) :
    ∀ (k i : Nat) (s : Shared), n - i = k → i ≤ n → Z i s → Txs P w s.heap S (xs.take i) → (∀ s2, Moved (S :: wr) G s s2 → Txs P w s2.heap S xs → R (.ok (.ret .none)) s2) →
      codeAny (model P w) A (.builtin "set.update.loop" ⟨[.ref S, .ref J], []⟩) R s := by
  have out2 : S ∉ wr := fun h => out (W.sub _ h)
  have more : ∀ b ∈ wr, b ∈ S :: wr := fun b hb => List.mem_cons_of_mem _ hb
  intro k
  induction k with
  | zero =>
    intro i s ek le z hS fin
    obtain rfl : i = n := by omega
    refine codeAny_builtin PyProof.Rows.F.entry_set_update_loop ?_; rw [Around.under_plainId PyProof.Rows.F.plain_set_update_loop _]
    show wpAny _ A.in1 (pyNext (.ref J) >>= _) _ _ s
    refine wpAny_bind (W.done s _ _ z fun s2 mv => ?_)
    obtain ⟨o, es, ep, t, ho, rest⟩ := hS
    rw [List.take_of_length_le (by omega)] at rest
    exact wpAny_pure (fin s2 (mv.mono more) ⟨o, es, ep, t, mv.heap S _ out2 ho, rest⟩)
  | succ k ih =>
    intro i s ek le z hS fin
    have lt : i < n := by omega
    refine codeAny_builtin PyProof.Rows.F.entry_set_update_loop ?_; rw [Around.under_plainId PyProof.Rows.F.plain_set_update_loop _]
    show wpAny _ A.in1 (pyNext (.ref J) >>= _) _ _ s
    refine wpAny_bind (W.item i s _ _ lt z fun v s2 hY z2 mv => ?_)
    obtain ⟨t, rfl⟩ := val i v hY
    have hS2 : Txs P w s2.heap S (xs.take i) := by
      obtain ⟨o, es, ep, tb, ho, rest⟩ := hS
      exact ⟨o, es, ep, tb, mv.heap S _ out2 ho, rest⟩
    show wpAny _ A.in1 (holding [Value.str (xs.getD i Str.empty) t] (setAdd S (.str (xs.getD i Str.empty) t)) >>= _) _ _ s2
    refine wpAny_bind (wpAny_holding ?_); unfold setAdd; refine wpAny_holding ?_
    refine wpAny_bind ((strKind P w).pyHash (k := xs.getD i Str.empty) (strKind_is _ _ _ _) ?_)
    have lt2 : i < xs.length := by omega
    have e : xs.getD i Str.empty = xs[i] := by rw [List.getD_eq_getElem?_getD, List.getElem?_eq_getElem lt2]; rfl
    have tk1 : xs.take (i + 1) = xs.take i ++ [xs.getD i Str.empty] := by rw [e, List.take_add_one, List.getElem?_eq_getElem lt2]; rfl
    refine add_txt (s := { s2 with toks := s2.toks + 1 }) hS2 (by rw [List.length_take]; omega) fun h3 b sb hS3 => ?_
    rw [← tk1] at hS3
    refine wpAny_pure ⟨plainId_quiet PyProof.Rows.F.plain_set_update_loop _, ih (i + 1) _ (by omega) lt (W.frame _ s2 _ _ z2 (Nat.le_succ _) fun b hb o e => ?_) hS3 fun s4 mv4 hS5 => ?_⟩
    · rw [sb.2 b (fun h : b = S => out (h ▸ hb))]
      exact e
    · refine fin s4 (Moved.trans W.gtrans ((mv.mono more).then_heap (Nat.le_succ _) fun b o hb e => ?_) mv4) hS5
      rw [sb.2 b (fun h : b = S => hb (h ▸ List.mem_cons_self))]
      exact e
end
section
variable {P : Program} {w : World} {A : Around} {E : Value → Shared → Prop} {s : Shared}
set_option maxHeartbeats 3200000 in
theorem set_of_tuple {l : Addr} {its : Array Value} {xs : List Str} {Q : Value → Shared → Prop} (calm : A.handled = none) (at_ : s.heap.IsTuple l its) (are : StrsAre its.toList xs) (room : xs.length + 1 < scanBound)
    (fin : ∀ (h2 : Heap) (tk : Nat), Txs P w h2 s.heap.objs.size xs → (∀ b o, s.heap.get? b = some o → h2.get? b = some o) → Q (.ref s.heap.objs.size) { s with heap := h2, toks := tk }) :
    wpAny (model P w) A (call (.type "set") [.ref l]) Q E s := by
  have sz : xs.length = its.size := by rw [← StrsAre.len_eq are, Array.length_toList]
  obtain ⟨_, _, m0⟩ := PySem.F.called_set.mro
  have m1 := PySem.F.called_set.made; have m2 := PySem.F.called_set.sub
  refine wpAny_call (codeAny_of_tree ?_); show wpAny _ _ (callAny (.type "set") _) _ _ _
  refine wpAny_pure ⟨Code.quiet_builtin _ (by decide +kernel), codeAny_builtin PySem.F.entry_type_call ?_⟩; rw [Around.under_plain (weight_type_call_type "set" [.ref l] []) rfl]
  have m3 := PySem.F.called_set.notType; have m4 := PySem.F.called_set.canCreate; have m5 := PySem.F.typeCall_set_1 (.ref l)
  repeat (any_goals (first | assumption | wp_step))
  refine codeAny_mono (code_set_led1 (.ref l) (E := E) (Q₁ := fun ob s1 => ob = .ref s.heap.objs.size ∧ s1 = { s with heap := s.heap.push (setL w) }) ⟨rfl, rfl⟩) fun r s1 hr => ?_
  rcases r with e | (_ | _ | _ | ob)
  · exact hr
  · exact hr.elim
  · exact hr.elim
  · exact hr.elim
  obtain ⟨rfl, rfl⟩ := hr
  have got : (s.heap.push (setL w)).get? s.heap.objs.size = some (setL w) := Heap.get?_push_size _ rfl
  have ty : Shared.TypeIs { s with heap := s.heap.push (setL w) } (.ref s.heap.objs.size) "set" := ⟨_, got, rfl⟩
  have m6 := PySem.F.called_set.init.lookup; have m7 := PySem.F.called_set.init.bind (.ref s.heap.objs.size)
  repeat (any_goals (first | assumption | wp_step))
  refine codeAny_mono (codeAny_call_builtin (R := wants (fun r s2 => r = .none ∧ ∃ h2 tk, s2 = { s with heap := h2, toks := tk } ∧ Txs P w h2 s.heap.objs.size xs ∧ (∀ b o, s.heap.get? b = some o → h2.get? b = some o)) E) PySem.F.called_set.init.plain PySem.F.entry_set_init (check_set_init_1 ty ?_)) fun r2 s2 hr2 => ?_
  · obtain ⟨ol, go, co, nl, dl⟩ := at_
    obtain ⟨ocls, odict, odata, oslots⟩ := ol
    simp only at co dl
    subst co dl
    have go2 : (s.heap.push (setL w)).get? l = some { cls := .type "tuple", dict := odict, data := .seq its nl, slots := oslots } := Heap.get?_push_of_some _ go
    have m8 := PySem.F.sub_tuple_set; have m9 := PySem.F.sub_tuple_frozenset
    have m10 : (Value.type "tuple" == Value.type "dict") = false := by decide
    have at2 : (s.heap.push (setL w)).IsTuple l its := ⟨_, go2, rfl, nl, rfl⟩
    unfold Builtin.«set.__init__» noKeywords Builtin.Frozenset.updateFrom; generalize ePI : pyIter = PI
    wp_walk
    subst ePI
    refine wpAny_pyIter_tuple at2 (wpAny_bind (wpAny_runValue ?_))
    have low : l < s.heap.objs.size := Heap.lt_size go
    have calm3 : A.in1.in1.in1.handled = none := by simp [calm]
    have far : l ≠ (s.heap.push (setL w)).objs.size := by rw [Heap.size_push]; exact Nat.ne_of_lt (Nat.lt_succ_of_lt low)
    have out : s.heap.objs.size ∉ [(s.heap.push (setL w)).objs.size, l] := by
      rw [Heap.size_push]
      simp only [List.mem_cons, List.not_mem_nil, or_false, not_or]
      exact ⟨Nat.ne_of_lt (Nat.lt_succ_self _), Nat.ne_of_gt low⟩
    refine take_txs ((Walks.tuple calm3 _ l far its).toS) s.heap.objs.size out xs sz (by rw [← sz]; exact room) (fun i v hv => SS.strs_at are i v (by rw [Array.getElem?_toList]; exact hv)) (its.size - 0) 0 _ (by omega) (Nat.zero_le _)
      ⟨⟨_, Heap.get?_push_size _ rfl, rfl, rfl⟩, ⟨_, Heap.get?_push_of_some _ go2, rfl, nl, rfl⟩⟩ ?first ?last
    case first =>
      have got2 : ((s.heap.push (setL w)).push { cls := .type "tuple_iterator", data := .fields #[.ref l, .int 0 0] }).get? s.heap.objs.size = some (setL w) := Heap.get?_push_of_some _ got
      exact txs_new got2
    case last =>
      intro s2 mv hS
      obtain ⟨h2, g2, d2, tk2, os2⟩ := s2
      obtain rfl : g2 = s.gens := mv.gens
      obtain rfl : d2 = s.drawn := mv.drawn
      obtain rfl : os2 = s.os := mv.os
      show wpAny _ _ _ _ _ _
      refine wpAny_pure (wpAny_pure ⟨rfl, h2, tk2, rfl, hS, fun b o e => ?_⟩)
      have lb := Heap.lt_size e
      refine mv.heap b o ?_ (Heap.get?_push_of_some _ (Heap.get?_push_of_some _ e))
      rw [Heap.size_push]
      simp only [List.mem_cons, List.not_mem_nil, or_false, not_or]
      exact ⟨Nat.ne_of_lt lb, Nat.ne_of_lt (Nat.lt_succ_of_lt lb)⟩
  · rcases r2 with e | (_ | _ | _ | r)
    · exact hr2
    · exact hr2.elim
    · exact hr2.elim
    · exact hr2.elim
    obtain ⟨rfl, h2, tk, rfl, hS, keep⟩ := hr2
    repeat (any_goals (first | assumption | wp_step))
    exact fin _ _ hS keep
end
section
variable {P : Program} {w : World} {A : Around} {E : Value → Shared → Prop} {s : Shared}
set_option maxHeartbeats 3200000 in
theorem set_of_list {l : Addr} {its : Array Value} {xs : List Str} {Q : Value → Shared → Prop} (calm : A.handled = none) (at_ : s.heap.IsList l its) (are : StrsAre its.toList xs) (room : xs.length + 1 < scanBound)
    (fin : ∀ (h2 : Heap) (tk : Nat), Txs P w h2 s.heap.objs.size xs → (∀ b o, s.heap.get? b = some o → h2.get? b = some o) → Q (.ref s.heap.objs.size) { s with heap := h2, toks := tk }) :
    wpAny (model P w) A (call (.type "set") [.ref l]) Q E s := by
  have sz : xs.length = its.size := by rw [← StrsAre.len_eq are, Array.length_toList]
  obtain ⟨_, _, m0⟩ := PySem.F.called_set.mro
  have m1 := PySem.F.called_set.made; have m2 := PySem.F.called_set.sub
  refine wpAny_call (codeAny_of_tree ?_); show wpAny _ _ (callAny (.type "set") _) _ _ _
  refine wpAny_pure ⟨Code.quiet_builtin _ (by decide +kernel), codeAny_builtin PySem.F.entry_type_call ?_⟩; rw [Around.under_plain (weight_type_call_type "set" [.ref l] []) rfl]
  have m3 := PySem.F.called_set.notType; have m4 := PySem.F.called_set.canCreate; have m5 := PySem.F.typeCall_set_1 (.ref l)
  repeat (any_goals (first | assumption | wp_step))
  refine codeAny_mono (code_set_led1 (.ref l) (E := E) (Q₁ := fun ob s1 => ob = .ref s.heap.objs.size ∧ s1 = { s with heap := s.heap.push (setL w) }) ⟨rfl, rfl⟩) fun r s1 hr => ?_
  rcases r with e | (_ | _ | _ | ob)
  · exact hr
  · exact hr.elim
  · exact hr.elim
  · exact hr.elim
  obtain ⟨rfl, rfl⟩ := hr
  have got : (s.heap.push (setL w)).get? s.heap.objs.size = some (setL w) := Heap.get?_push_size _ rfl
  have ty : Shared.TypeIs { s with heap := s.heap.push (setL w) } (.ref s.heap.objs.size) "set" := ⟨_, got, rfl⟩
  have m6 := PySem.F.called_set.init.lookup; have m7 := PySem.F.called_set.init.bind (.ref s.heap.objs.size)
  repeat (any_goals (first | assumption | wp_step))
  refine codeAny_mono (codeAny_call_builtin (R := wants (fun r s2 => r = .none ∧ ∃ h2 tk, s2 = { s with heap := h2, toks := tk } ∧ Txs P w h2 s.heap.objs.size xs ∧ (∀ b o, s.heap.get? b = some o → h2.get? b = some o)) E) PySem.F.called_set.init.plain PySem.F.entry_set_init (check_set_init_1 ty ?_)) fun r2 s2 hr2 => ?_
  · obtain ⟨ol, go, co, nl, dl⟩ := at_
    obtain ⟨ocls, odict, odata, oslots⟩ := ol
    simp only at co dl
    subst co dl
    have go2 : (s.heap.push (setL w)).get? l = some { cls := .type "list", dict := odict, data := .seq its nl, slots := oslots } := Heap.get?_push_of_some _ go
    have m8 := PySem.F.sub_list_set; have m9 := PySem.F.sub_list_frozenset
    have m10 : (Value.type "list" == Value.type "dict") = false := by decide
    have at2 : (s.heap.push (setL w)).IsList l its := ⟨_, go2, rfl, nl, rfl⟩
    unfold Builtin.«set.__init__» noKeywords Builtin.Frozenset.updateFrom; generalize ePI : pyIter = PI
    wp_walk
    subst ePI
    refine wpAny_pyIter_list at2 (wpAny_bind (wpAny_runValue ?_))
    have low : l < s.heap.objs.size := Heap.lt_size go
    have calm3 : A.in1.in1.in1.handled = none := by simp [calm]
    have far : l ≠ (s.heap.push (setL w)).objs.size := by rw [Heap.size_push]; exact Nat.ne_of_lt (Nat.lt_succ_of_lt low)
    have out : s.heap.objs.size ∉ [(s.heap.push (setL w)).objs.size, l] := by
      rw [Heap.size_push]
      simp only [List.mem_cons, List.not_mem_nil, or_false, not_or]
      exact ⟨Nat.ne_of_lt (Nat.lt_succ_self _), Nat.ne_of_gt low⟩
    refine take_txs ((Walks.list calm3 _ l far its).toS) s.heap.objs.size out xs sz (by rw [← sz]; exact room) (fun i v hv => SS.strs_at are i v (by rw [Array.getElem?_toList]; exact hv)) (its.size - 0) 0 _ (by omega) (Nat.zero_le _)
      ⟨⟨_, Heap.get?_push_size _ rfl, rfl, rfl⟩, ⟨_, Heap.get?_push_of_some _ go2, rfl, nl, rfl⟩⟩ ?first ?last
    case first =>
      have got2 : ((s.heap.push (setL w)).push { cls := .type "list_iterator", data := .fields #[.ref l, .int 0 0] }).get? s.heap.objs.size = some (setL w) := Heap.get?_push_of_some _ got
      exact txs_new got2
    case last =>
      intro s2 mv hS
      obtain ⟨h2, g2, d2, tk2, os2⟩ := s2
      obtain rfl : g2 = s.gens := mv.gens
      obtain rfl : d2 = s.drawn := mv.drawn
      obtain rfl : os2 = s.os := mv.os
      show wpAny _ _ _ _ _ _
      refine wpAny_pure (wpAny_pure ⟨rfl, h2, tk2, rfl, hS, fun b o e => ?_⟩)
      have lb := Heap.lt_size e
      refine mv.heap b o ?_ (Heap.get?_push_of_some _ (Heap.get?_push_of_some _ e))
      rw [Heap.size_push]
      simp only [List.mem_cons, List.not_mem_nil, or_false, not_or]
      exact ⟨Nat.ne_of_lt lb, Nat.ne_of_lt (Nat.lt_succ_of_lt lb)⟩
  · rcases r2 with e | (_ | _ | _ | r)
    · exact hr2
    · exact hr2.elim
    · exact hr2.elim
    · exact hr2.elim
    obtain ⟨rfl, h2, tk, rfl, hS, keep⟩ := hr2
    repeat (any_goals (first | assumption | wp_step))
    exact fin _ _ hS keep
end
end Xs

namespace Xs
open PySem PySem.Spec PyProof.Rows L2 Gy Xt
theorem strs_rows {P : Program} {w : World} : ∀ (vs : List Value), (∀ v ∈ vs, ∃ x tk, v = Value.str x tk) → ∃ ss, StrsAre vs ss
  | [], _ => ⟨[], .nil⟩
  | v :: vs, h => by
    obtain ⟨x, tk, rfl⟩ := h v List.mem_cons_self
    obtain ⟨ss, hs⟩ := strs_rows (P := P) (w := w) vs fun u hu => h u (List.mem_cons_of_mem _ hu)
    exact ⟨x :: ss, .cons x tk hs⟩
def txV (v : Value) : Str := match v with
  | .str x _ => x
  | _ => Str.empty
theorem strs_txV : ∀ {vs : List Value} {ss : List Str}, StrsAre vs ss → ss = vs.map txV
  | _, _, .nil => rfl
  | _, _, .cons x t h => by
    rw [List.map_cons, ← strs_txV h]
    rfl
section
variable {P : Program} {w : World} {A : Around} {E : Value → Shared → Prop} {s : Shared} {a : Addr} {xs : List Str}
/-- sorted of a set of texts -/
theorem sorted_txs {Q : Value → Shared → Prop} (R : Txs P w s.heap a xs) (calm : A.handled = none) (few : xs.length < 64)
    (fin : ∀ (s2 : Shared) (p : Addr) (out : Array Value) (c : Nat) (ys : List Str), (∀ b o, s.heap.get? b = some o → s2.heap.get? b = some o) → s2.gens = s.gens → s2.os = s.os → s.heap.objs.size ≤ p → s2.heap.get? p = some (seqObj "list" out c) → StrsAre out.toList ys → sortedS ys = true → ys.Nodup → (∀ x, x ∈ ys ↔ x ∈ xs) → ys.length ≤ xs.length → Q (.ref p) s2) :
    wpAny (model P w) A (call (.builtin "sorted") [.ref a]) Q E s := by
  obtain ⟨o, es, ep, t, ho, hx, hd, r⟩ := R
  refine Calls.call_function_entry kind_sorted plain_sorted entry_sorted (args_sorted1 _) ?_
  unfold Builtin.«sorted»
  refine wpAny_bind (m := checkCount "sorted" 1 1 _) (wpAny_pure ?_)
  refine wpAny_bind (collect_set (A := A.in1) calm ⟨o, ho, hx.1, hd⟩ r.fit r.room r.ris r.led fun s1 vs k1 z1 g1 o1 pm => ?_)
  have lv : vs.length = es.size := by rw [pm.length_eq, List.length_map, Array.length_toList]
  have l64 : vs.length < 64 := by have := r.few; omega
  obtain ⟨ss, hS⟩ := strs_rows (P := P) (w := w) vs fun v hv => by
    obtain ⟨e, he, q⟩ := List.mem_map.mp (pm.mem_iff.mp hv)
    obtain ⟨x, tk, e2⟩ := r.rows e he
    exact ⟨x, tk, by rw [← q, e2]⟩
  have ps : ss.Perm (es.toList.map rowX) := by
    rw [strs_txV hS]
    have q := pm.map txV
    rw [List.map_map] at q
    exact q
  refine wpAny_bind (wpAny_newList ?_ (by rw [sizeLine_eq]; omega))
  have at1 : (s1.heap.push (seqObj "list" vs.toArray 0)).get? s1.heap.objs.size = some (seqObj "list" vs.toArray 0) := Heap.get?_push_size _ rfl
  refine wpAny_bind (wpAny_holding (wpAny_call_entry slot_list_sort ⟨_, at1, rfl⟩ entry_list_sort (list_sort_treeK strKind_oneLt at1 hS.keysOf (fun v₁ v₂ rest e => keyKind_strs (by rw [← e]; exact hS)) l64 fun st hp hs => ⟨_, rfl, ?_⟩) (args_list_sort _)))
  obtain ⟨zs, h1, h2, h3⟩ := sorted_out_str hS hp hs
  obtain ⟨c, hc⟩ := sortedHeap_at (vs := vs) (out := (arrOf st).map (·.2)) at1
  have pz := h2.trans ps
  refine wpAny_pure ⟨_, rfl, fin _ s1.heap.objs.size _ c zs (fun b u e => ?_) g1 o1 z1 hc h1 h3 (pz.nodup_iff.mpr r.nd) (fun x => ?_) (by rw [pz.length_eq, List.length_map, Array.length_toList]; exact r.few)⟩
  · have q := k1 b u e
    have lt := Heap.lt_size q
    show (sortedHeap (s1.heap.push (seqObj "list" vs.toArray 0)) s1.heap.objs.size vs _).get? b = some u
    rw [sortedHeap_old (Nat.ne_of_lt lt) (by rw [size_push']; exact Nat.lt_succ_of_lt lt)]
    exact Heap.get?_push_of_some _ q
  · rw [pz.mem_iff]
    exact r.mem x
end
section
variable {X : Cx}
/-- sorted(set(xs)), xs a list or a tuple of texts -/
def tSrtSet (K : PySem.W.Frag) (ta : TE) : TE := fun σ H Q => ta σ H fun x H1 => ∃ (l : Addr) (xs : List Str), x = .ref l ∧ (SqL K H1 l (xs.map V.str) ∨ SqT K H1 l (xs.map V.str)) ∧ xs.length < 64 ∧
  ∀ (ys : List Str) (p : Addr), sortedS ys = true → ys.Nodup → (∀ x, x ∈ ys ↔ x ∈ xs) → H1 p = none → Q (.ref p) (upd H1 p (.lst (ys.map V.str)))
theorem pe_srtSet {a : Expr} {ta : TE} {p p2 q pos : Pos} (hg : Gl X "sorted") (hm : X.mg "sorted" = none) (hg2 : Gl X "set") (hm2 : X.mg "set" = none) (ha : PE X a ta) (calm : X.calm = true := by rfl)
    (na : starEach [a] X.env = (false, eval a X.env) :: starEach [] X.env := by rfl) : PE X (.Call (.Name "sorted" p) [.Call (.Name "set" p2) [a] [] q] [] pos) (tSrtSet X.K ta) := by
  refine ⟨fun pins s σ H Q I h => Call_ (ld_blt I hg hm (by decide +kernel : bootBuiltins "sorted" = some (.builtin "sorted")) ?_)⟩
  refine PyProof.Rows.callWith_builtin1 (PyProof.Rows.args_cons (Call_ (ld_blt I hg2 hm2 boot_set ?_)) rfl) rfl rfl
  refine PyProof.Rows.callWith_type1 (PyProof.Rows.args_cons (thn (ha.run pins s σ H _ I h) fun v s1 ⟨x, H1, I1, r1, q1⟩ => PyProof.Rows.args_nil ?_) na) na rfl
  obtain ⟨l, xs, rfl, sq, few, q1⟩ := q1
  cases r1
  have hd := I1.ok.hd calm
  have go : ∀ (s2 : Shared), Inv X pins σ H1 s2 → Txs X.prog X.w s2.heap s1.heap.objs.size xs → wpAny (model X.prog X.w) X.A (call (.builtin "sorted") [.ref s1.heap.objs.size]) (EP X pins σ Q) X.xe s2 := by
    intro s2 I2 R
    refine sorted_txs R hd few fun s3 p out c ys k g o hp hg hi hs hn hm hl => ?_
    have np : H1 p = none := I2.hok.fresh hp
    have len : (ys.map V.str).length ≤ sizeLine := by
      rw [List.length_map, sizeLine_eq]
      omega
    have J : Inv X pins σ (upd H1 p (.lst (ys.map V.str))) { s2 with heap := s3.heap, gens := s3.gens, drawn := s3.drawn, toks := s3.toks } :=
      I2.call (ch := []) (Un.laid k hp np) (I2.hok.laid k hp ⟨len, out.toList, c, vals_of_strs hi, hg⟩) (by rw [g]; exact I2.bare) (fun _ z => nomatch z)
    have e : s3 = { s2 with heap := s3.heap, gens := s3.gens, drawn := s3.drawn, toks := s3.toks } := by
      cases s3
      cases s2
      cases o
      rfl
    rw [e]
    exact ⟨.ref p, _, J, rfl, q1 ys p hs hn hm np⟩
  have kp : ∀ (h2 : Heap) (tk : Nat), (∀ b o, s1.heap.get? b = some o → h2.get? b = some o) → Inv X pins σ H1 { s1 with heap := h2, toks := tk } := fun h2 tk keep => I1.kept fun b o e => keep b o e
  rcases sq with sq | sq
  · obtain ⟨its, r, pl, _⟩ := I1.list sq
    obtain ⟨ol, nl, gl, cl, _, dl⟩ := pl
    exact set_of_list hd ⟨ol, gl, cl, nl, dl⟩ (by simpa using strsAre_of r) (by unfold scanBound; omega) fun h2 tk R keep => PyProof.Rows.args_nil (go _ (kp h2 tk keep) R)
  · obtain ⟨its, r, pl, _⟩ := I1.tuple sq
    exact set_of_tuple hd pl (by simpa using strsAre_of r) (by unfold scanBound; omega) fun h2 tk R keep => PyProof.Rows.args_nil (go _ (kp h2 tk keep) R)
end
end Xs

/-! Own __len__, own __repr__, a list in an f-string by !r; dict comprehensions over any walk; pairs of texts sorted. -/
namespace Xo
open PySem PySem.Spec PyProof.Rows L2 Gy Xt
section
variable {X : Cx} {pins : List (Addr × Obj)} {σ : L2.St} {H : Hp} {s : Shared}
theorem env_in1 (I : Inv X pins σ H s) : Env0 X.prog X.w X.K X.mg X.base X.A.in1 X.stack s H := by
  have e := I.env0
  exact ⟨e.frames, e.mod, e.bs, e.bsz, e.funs, e.frf, e.hok, e.bare⟩
/-- len(o), o of an own class with a __len__ -/
def rLenO (C : Addr) (sp : Sp) (E : XK) : List V → Hp → VK → Prop := fun xs H Q => ∃ a dx fs, xs = [.ref a] ∧ H a = some (.ins C dx fs) ∧ sp [.ref a] H (fun v H' => ∃ n : Nat, v = .int (n : Int) ∧ n < 9223372036854775808 ∧ Q (.int (n : Int)) H') E
theorem call_lenO {CX : CXT} {k : Nat} {C f : Addr} {fd : FuncData} {ps : List Str} {sp : Sp} {E : XK} (F : FnOk X.prog X.w X.K X.mg X.base CX k f fd ps sp) (hr : Room (k + 1) X.A)
    (hm : Meth X.K C "__len__" f) (hb : Binds X.K fd ps []) (hx : Passes CX X E) : CallR X (.builtin "len") (rLenO C sp E) := by
  intro pins s σ H xs us Q I r h
  obtain ⟨a, dx, fs, rfl, ha, q⟩ := h
  obtain ⟨u, rfl, ru⟩ := vals1 r
  cases ru
  obtain ⟨mA, J, _⟩ := ins_get I.hok ha
  obtain ⟨od, J, _⟩ := J.look
  refine Calls.call_function_entry kind_len plain_len entry_len (args_len1 _) ?_
  unfold Builtin.«len»
  refine wpAny_bind (m := oneArg "len" _) (wpAny_pure ?_)
  refine wpAny_bind (m := callSpecial? (.ref a) (Str.ofString "__len__")) (PySem.W.special_fn I.kIn J hm.at_ (beq_iff_eq.mp hm.fn) ?_)
  have hl := F.len _ _ _ _ q
  refine wpAny_call (codeAny_mono (F.run X.A.in1 X.stack s H ⟨[.ref a], []⟩ [.ref a] [.ref a] _ E hr.in1 (env_in1 I) (by
    have := hb s [.ref a] I.kIn (by simpa using hl)
    simpa using this) (.cons rfl .nil) q) fun r s' hq => ?_)
  cases r with
  | error e => exact hx pins σ H s e s' I hq
  | ok fl =>
    cases fl with
    | ret w =>
      obtain ⟨z, H', I', rz, n, rfl, hn, qq⟩ := I.after hq
      obtain ⟨t, rfl⟩ := rz
      refine wpAny_bind (wpAny_holding (wpAny_pure ?_))
      refine wpAny_bind (wpAny_letGo ?_)
      show wpAny _ _ (if (n : Int) < 0 then _ else _) _ _ _
      rw [if_neg (by omega)]
      show wpAny _ _ (if (n : Int) ≥ 2 ^ 63 then _ else _) _ _ _
      rw [if_neg (by omega)]
      exact wpAny_bind (wpAny_mkInt (wpAny_pure ⟨_, rfl, .int n, H', I'.tok _, ⟨_, rfl⟩, qq⟩))
    | next => exact False.elim hq
    | brk => exact False.elim hq
    | cont => exact False.elim hq
/-- repr(o), o of an own class with a __repr__ -/
def rReprO (C : Addr) (sp : Sp) (E : XK) : List V → Hp → VK → Prop := fun xs H Q => ∃ a dx fs, xs = [.ref a] ∧ H a = some (.ins C dx fs) ∧ sp [.ref a] H (fun v H' => ∃ t : Str, v = .str t ∧ Q (.str t) H') E
theorem call_reprO {CX : CXT} {k : Nat} {C f : Addr} {fd : FuncData} {ps : List Str} {sp : Sp} {E : XK} (F : FnG X.prog X.w X.K X.mg X.base CX k f fd ps sp) (gd : X.A.guards = some []) (hr : Room (k + 1) X.A)
    (hm : Meth X.K C "__repr__" f) (hb : Binds X.K fd ps []) (hx : Passes CX X E) : CallR X (.builtin "repr") (rReprO C sp E) := by
  intro pins s σ H xs us Q I r h
  obtain ⟨a, dx, fs, rfl, ha, q⟩ := h
  obtain ⟨u, rfl, ru⟩ := vals1 r
  cases ru
  obtain ⟨mA, J, _⟩ := ins_get I.hok ha
  obtain ⟨od, J, _⟩ := J.look
  refine Calls.call_function_entry PySem.F.kind_repr PySem.F.plain_repr PySem.F.entry_repr (PySem.F.args_repr1 _) ?_
  unfold Builtin.«repr»
  refine wpAny_bind (m := oneArg "repr" _) (wpAny_pure ?_)
  refine wpAny_bind (m := cRoomFor _ _) (wpAny_cRoomFor hr.in1.units0 ?_)
  refine wpAny_bind (m := specialOf (.ref a) (Str.ofString "__repr__")) (wpAny_bind (J.type.here ((PySem.W.looks_findIn I.kIn hm.at_).here ?_)))
  show wpAny _ _ (if (some (Value.ref f)).isNone = true then _ else _) _ _ _
  rw [if_neg (by simp)]
  refine wpAny_bind (m := callSpecialIfBound? (.ref a) (Str.ofString "__repr__") _) (PySem.W.ifBound_K I.kIn J hm.at_ hm.fn ?_)
  have hl := F.ln q
  refine wpAny_call (codeAny_mono (F.go (A := X.A.in1) (outer := X.stack) (s := s) (args := ⟨[.ref a], []⟩) (us := [.ref a]) (vs := [.ref a]) gd hr.in1 (env_in1 I) (by
    have := hb s [.ref a] I.kIn (by simpa using hl)
    simpa using this) (.cons rfl .nil) q) fun r s' hq => ?_)
  cases r with
  | error e => exact hx pins σ H s e s' I hq
  | ok fl =>
    cases fl with
    | ret w =>
      obtain ⟨z, H', I', rz, n, rfl, qq⟩ := I.after hq
      obtain ⟨t, rfl⟩ := rz
      refine wpAny_bind (wpAny_isInstance (T := "str") (b := true) (typeIs_str _ _ _) isSubtype_str_str ?_)
      first
        | exact wpAny_pure ⟨_, rfl, .str n, H', I', ⟨_, rfl⟩, qq⟩
        | (rw [if_pos rfl]; exact wpAny_pure ⟨_, rfl, .str n, H', I', ⟨_, rfl⟩, qq⟩)
        | (simp only [if_true]; exact wpAny_pure ⟨_, rfl, .str n, H', I', ⟨_, rfl⟩, qq⟩)
    | next => exact False.elim hq
    | brk => exact False.elim hq
    | cont => exact False.elim hq
/-- {e!r}, a list of data -/
def tFmtL (K : PySem.W.Frag) (te : TE) : TE := fun σ H Q => te σ H fun x H1 => ∃ a xs ds, x = .ref a ∧ H1 a = some (.lst xs) ∧ Dns K H1 xs ds ∧ PyData.showableAll ds = true ∧ PyData.depthAll ds ≤ 50 ∧ (PyData.shown (.list ds)).length ≤ sizeLine ∧ Q (.str (PyData.shown (.list ds))) H1
theorem pe_fmtL {e : Expr} {te : TE} {pos : Pos} (hg : X.A.guards = some []) (hu : X.A.units + 70 < cLine) (he : PE X e te) : PE X (.FormattedValue e 114 none pos) (tFmtL X.K te) := by
  refine ⟨fun pins s σ H Q I h => ?_⟩
  refine wpAny_FormattedValue_repr (thn (he.run pins s σ H _ I h) fun v s1 hv => ?_)
  obtain ⟨x, H1, I1, r1, a, ys, ds, rfl, h, ha, sh, dp, len, q⟩ := hv
  cases r1
  have len' : (listText (PyData.shownAll ds)).length ≤ sizeLine := by simpa only [PyData.shown] using len
  have fin : ∀ (h' : Heap) (x : Tok) (tk : Nat), (∀ b o, s1.heap.get? b = some o → h'.get? b = some o) → wpAny (model X.prog X.w) X.A (formatField (.str (PyData.shown (.list ds)) x) Str.empty) (EP X pins σ Q) X.xe { s1 with heap := h', toks := tk } := fun h' x tk hk =>
    wpAny_formatField_str ⟨.str _, H1, I1.kept hk, ⟨x, rfl⟩, q⟩ ⟨.str _, H1, (I1.kept hk).tok _, ⟨_, rfl⟩, q⟩ len
  obtain ⟨its, rv, ⟨o, n, g1, g2, _, g3⟩, _⟩ := I1.list (SqL.of h)
  obtain ⟨as, bs, rd, at_, sw⟩ := Dns.shows I1 ha rv sh fun t ht => Nat.le_trans (listText_mem_le ht) len'
  have out : a ∉ bs := not_mem_of_deeper (.list g1 g2 g3 rd) (by simp only [PyData.depth]; omega) at_
  match its, rv, g3, rd, sw with
  | [], rv, g3, rd, _ =>
    cases rd
    refine wpAny_pyReprObj_list_empty ⟨o, g1, g2⟩ (by omega) g1 g3 ?_
    have z := fin s1.heap s1.toks (s1.toks + 1) (fun _ _ e => e)
    simpa only [PyData.shown, PyData.shownAll, listText_nil] using z
  | x :: rest, _, g3, _, sw =>
    refine wpAny_pyReprObj_listK g1 g2 g3 out (by simpa using sw.length_eq) (fun i y e => sw.item i y (by simpa using e)) (g := []) hg (fun b _ => Clear.nil b) (d := PyData.depthAll ds) ?_ (fun _ _ e => e) (fun h' u tk hk => fin h' u tk hk) len'
    omega
end
/-- a dict comprehension over a walk -/
theorem dc_it {J : It} {n : Nat} {G : Hp → Prop} {Y : Nat → Hp → V → Hp → Prop} (w : Walk J n G Y) {g : TG} {tt : TT} {tk tv : TE} {vs : List Nat} {σ : L2.St} {H1 : Hp} {D : Addr} {Qd : Hp → Prop} (Pv : Nat → Hp → Prop) (h0 : Pv 0 (upd H1 D (.dK []))) (hG : ∀ i H, i ≤ n → Pv i H → G H)
    (hs : ∀ i x H H', i < n → Pv i H → Y i H x H' → g x (wipe σ vs) H' fun σ2 H2 => wipe σ2 vs = wipe σ vs ∧ tt σ2 H2 fun b H3 =>
      if b = true then tk σ2 H3 fun y H4 => tv σ2 H4 fun z H5 => ∃ kvs k, y = kV k ∧ H5 D = some (.dK kvs) ∧ kvs.length < sizeLine ∧ Pv (i + 1) (upd H5 D (.dK (putK kvs k z))) else Pv (i + 1) H3) (hd : ∀ H, Pv n H → Qd H) :
    ∃ W : Nat → Nat → Hp → Prop, (∃ m, W 0 m (upd H1 D (.dK []))) ∧ ∀ i m H, W i m H →
      (J.stop i H ∧ Qd H) ∨ (J.go i H ∧ ∃ Nx : Hp → Prop, (∀ H', Nx H' → ∃ m', m' < m ∧ W (i + 1) m' H') ∧ ∀ x H', J.yld i H x H' → g x (wipe σ vs) H' fun σ2 H2 => wipe σ2 vs = wipe σ vs ∧ tt σ2 H2 fun b H3 =>
        if b = true then tk σ2 H3 fun y H4 => tv σ2 H4 fun z H5 => ∃ kvs k, y = kV k ∧ H5 D = some (.dK kvs) ∧ kvs.length < sizeLine ∧ Nx (upd H5 D (.dK (putK kvs k z))) else Nx H3) := by
  refine ⟨fun i m H => m = n - i ∧ i ≤ n ∧ Pv i H, ⟨n, by simp, Nat.zero_le _, h0⟩, ?_⟩
  rintro i m H ⟨rfl, hi, p⟩
  have q := hG i H hi p
  by_cases hlt : i < n
  · refine .inr ⟨w.goes i H hlt q, Pv (i + 1), fun H' p' => ⟨n - (i + 1), by omega, rfl, hlt, p'⟩, fun x H' y => hs i x H H' hlt p (w.yields i H x H' hlt q y)⟩
  · have e : i = n := by omega
    subst e
    exact .inl ⟨w.stops H q, hd H p⟩
/-- the inner walk of a comprehension with two -/
theorem lc_in {J1 : It} {n : Nat} {G : Hp → Prop} {Y : Nat → Hp → V → Hp → Prop} (w : Walk J1 n G Y) {g1 : TG} {tt1 : TT} {te : TE} {vs1 : List Nat} {σ2 : L2.St} {H4 : Hp} {D : Addr} {Nx : Hp → Prop} (Pv : Nat → Hp → Prop) (h0 : Pv 0 H4) (hG : ∀ i H, i ≤ n → Pv i H → G H)
    (hs : ∀ i x H H', i < n → Pv i H → Y i H x H' → g1 x (wipe σ2 vs1) H' fun σ3 H5 => wipe σ3 vs1 = wipe σ2 vs1 ∧ tt1 σ3 H5 fun b H6 =>
      if b = true then te σ3 H6 fun y H7 => ∃ acc, H7 D = some (.lst acc) ∧ acc.length < sizeLine ∧ Pv (i + 1) (upd H7 D (.lst (acc ++ [y]))) else Pv (i + 1) H6) (hd : ∀ H, Pv n H → Nx H) :
    ∃ W1 : Nat → Nat → Hp → Prop, (∃ m, W1 0 m H4) ∧ ∀ j k H, W1 j k H →
      (J1.stop j H ∧ Nx H) ∨ (J1.go j H ∧ ∃ Nx1 : Hp → Prop, (∀ H', Nx1 H' → ∃ k', k' < k ∧ W1 (j + 1) k' H') ∧ ∀ x H', J1.yld j H x H' → g1 x (wipe σ2 vs1) H' fun σ3 H5 => wipe σ3 vs1 = wipe σ2 vs1 ∧ tt1 σ3 H5 fun b H6 =>
        if b = true then te σ3 H6 fun y H7 => ∃ acc, H7 D = some (.lst acc) ∧ acc.length < sizeLine ∧ Nx1 (upd H7 D (.lst (acc ++ [y]))) else Nx1 H6) := by
  refine ⟨fun i m H => m = n - i ∧ i ≤ n ∧ Pv i H, ⟨n, by simp, Nat.zero_le _, h0⟩, ?_⟩
  rintro i m H ⟨rfl, hi, p⟩
  have q := hG i H hi p
  by_cases hlt : i < n
  · refine .inr ⟨w.goes i H hlt q, Pv (i + 1), fun H' p' => ⟨n - (i + 1), by omega, rfl, hlt, p'⟩, fun x H' y => hs i x H H' hlt p (w.yields i H x H' hlt q y)⟩
  · have e : i = n := by omega
    subst e
    exact .inl ⟨w.stops H q, hd H p⟩
/-- the outer walk -/
theorem lc_out {J : It} {n : Nat} {G : Hp → Prop} {Y : Nat → Hp → V → Hp → Prop} (w : Walk J n G Y) {g g1 : TG} {tt tt1 : TT} {wi1 : TI} {te : TE} {vs vs1 : List Nat} {σ : L2.St} {H1 : Hp} {D : Addr} {Qd : Hp → Prop} (Pv : Nat → Hp → Prop) (h0 : Pv 0 (upd H1 D (.lst []))) (hG : ∀ i H, i ≤ n → Pv i H → G H)
    (hs : ∀ i x H H', i < n → Pv i H → Y i H x H' → g x (wipe σ vs) H' fun σ2 H2 => wipe σ2 vs = wipe σ vs ∧ tt σ2 H2 fun b H3 =>
      if b = true then wi1 σ2 H3 fun J1 H4 => ∃ W1 : Nat → Nat → Hp → Prop, (∃ m, W1 0 m H4) ∧ ∀ j k H, W1 j k H →
        (J1.stop j H ∧ Pv (i + 1) H) ∨ (J1.go j H ∧ ∃ Nx1 : Hp → Prop, (∀ H', Nx1 H' → ∃ k', k' < k ∧ W1 (j + 1) k' H') ∧ ∀ x H', J1.yld j H x H' → g1 x (wipe σ2 vs1) H' fun σ3 H5 => wipe σ3 vs1 = wipe σ2 vs1 ∧ tt1 σ3 H5 fun b H6 =>
          if b = true then te σ3 H6 fun y H7 => ∃ acc, H7 D = some (.lst acc) ∧ acc.length < sizeLine ∧ Nx1 (upd H7 D (.lst (acc ++ [y]))) else Nx1 H6)
      else Pv (i + 1) H3) (hd : ∀ H, Pv n H → Qd H) :
    ∃ W : Nat → Nat → Hp → Prop, (∃ m, W 0 m (upd H1 D (.lst []))) ∧ ∀ i m H, W i m H →
      (J.stop i H ∧ Qd H) ∨ (J.go i H ∧ ∃ Nx : Hp → Prop, (∀ H', Nx H' → ∃ m', m' < m ∧ W (i + 1) m' H') ∧ ∀ x H', J.yld i H x H' → g x (wipe σ vs) H' fun σ2 H2 => wipe σ2 vs = wipe σ vs ∧ tt σ2 H2 fun b H3 =>
        if b = true then wi1 σ2 H3 fun J1 H4 => ∃ W1 : Nat → Nat → Hp → Prop, (∃ m, W1 0 m H4) ∧ ∀ j k H, W1 j k H →
          (J1.stop j H ∧ Nx H) ∨ (J1.go j H ∧ ∃ Nx1 : Hp → Prop, (∀ H', Nx1 H' → ∃ k', k' < k ∧ W1 (j + 1) k' H') ∧ ∀ x H', J1.yld j H x H' → g1 x (wipe σ2 vs1) H' fun σ3 H5 => wipe σ3 vs1 = wipe σ2 vs1 ∧ tt1 σ3 H5 fun b H6 =>
            if b = true then te σ3 H6 fun y H7 => ∃ acc, H7 D = some (.lst acc) ∧ acc.length < sizeLine ∧ Nx1 (upd H7 D (.lst (acc ++ [y]))) else Nx1 H6)
        else Nx H3) := by
  refine ⟨fun i m H => m = n - i ∧ i ≤ n ∧ Pv i H, ⟨n, by simp, Nat.zero_le _, h0⟩, ?_⟩
  rintro i m H ⟨rfl, hi, p⟩
  have q := hG i H hi p
  by_cases hlt : i < n
  · refine .inr ⟨w.goes i H hlt q, Pv (i + 1), fun H' p' => ⟨n - (i + 1), by omega, rfl, hlt, p'⟩, fun x H' y => hs i x H H' hlt p (w.yields i H x H' hlt q y)⟩
  · have e : i = n := by omega
    subst e
    exact .inl ⟨w.stops H q, hd H p⟩
end Xo
/-! ### pairs of texts sorted -/
namespace Xp
open PySem PyProof.Rows Srt SrtO
def ltS (x y : Str) : Bool := decide (x.cps.toList < y.cps.toList)
theorem ltS_tri {x y : Str} (h1 : ltS x y = false) (h2 : ltS y x = false) : x = y := by
  have e : x.cps.toList = y.cps.toList := List.le_antisymm (List.not_lt.mp (of_decide_eq_false h2)) (List.not_lt.mp (of_decide_eq_false h1))
  cases x with
  | mk a =>
    cases y with
    | mk b =>
      have e' : a.toList = b.toList := e
      rw [Array.toList_inj.mp e']
theorem ltS_irr (x : Str) : ltS x x = false := decide_eq_false (List.lt_irrefl _)
theorem ltS_asym {x y : Str} (h : ltS x y = true) : ltS y x = false := decide_eq_false fun z => List.lt_irrefl _ (List.lt_trans (of_decide_eq_true h) z)
theorem ltS_trans {x y z : Str} (h1 : ltS x y = true) (h2 : ltS y z = true) : ltS x z = true := decide_eq_true (List.lt_trans (of_decide_eq_true h1) (of_decide_eq_true h2))
theorem ltS_ntr {x y z : Str} (h1 : ltS y x = false) (h2 : ltS z y = false) : ltS z x = false := by
  cases h : ltS z x with
  | false => rfl
  | true =>
    cases h3 : ltS x y with
    | true =>
      rw [ltS_trans h h3] at h2
      cases h2
    | false =>
      have := ltS_tri h1 h3
      subst this
      rw [h] at h2
      cases h2
/-- by the first, then by the second -/
def lexS (p q : Str × Str) : Bool := if p.1 = q.1 then ltS p.2 q.2 else ltS p.1 q.1
theorem lexS_swo {α : Type} (k : α → Str × Str) : Swo fun v u => lexS (k v) (k u) := by
  refine ⟨fun x y h => ?_, fun x y z h1 h2 => ?_⟩
  · skip
    unfold lexS at h ⊢
    by_cases e : (k x).1 = (k y).1
    · rw [if_pos e] at h
      rw [if_pos e.symm]
      exact ltS_asym h
    · rw [if_neg e] at h
      rw [if_neg fun z => e z.symm]
      exact ltS_asym h
  · skip
    unfold lexS at h1 h2 ⊢
    by_cases e1 : (k y).1 = (k x).1
    · by_cases e2 : (k z).1 = (k y).1
      · rw [if_pos e1] at h1
        rw [if_pos e2] at h2
        rw [if_pos (e2.trans e1)]
        exact ltS_ntr h1 h2
      · rw [if_neg e2] at h2
        rw [if_neg fun w => e2 (w.trans e1.symm), ← e1]
        exact h2
    · rw [if_neg e1] at h1
      by_cases e2 : (k z).1 = (k y).1
      · rw [if_neg fun w => e1 (e2.symm.trans w), e2]
        exact h1
      · rw [if_neg e2] at h2
        have h3 := ltS_ntr h1 h2
        by_cases e3 : (k z).1 = (k x).1
        · rw [e3] at h2
          exact absurd (ltS_tri h1 h2) e1
        · rw [if_neg e3]
          exact h3
def IsPr (h : Heap) (v : Value) (x y : Str) : Prop := ∃ a o t u n, v = .ref a ∧ h.get? a = some o ∧ o.cls = .type "tuple" ∧ o.data = .seq #[.str x t, .str y u] n
theorem IsPr.keeps {h h' : Heap} {v : Value} {x y : Str} (p : IsPr h v x y) (k : ∀ b o, h.get? b = some o → o.cls = .type "tuple" → h'.get? b = some o) : IsPr h' v x y := by
  obtain ⟨a, o, t, u, n, e, ho, hc, hd⟩ := p
  exact ⟨a, o, t, u, n, e, k a o ho hc, hc, hd⟩
theorem pr_firsts {h : Heap} : ∀ {vs : List Value}, (∀ v ∈ vs, ∃ x y, IsPr h v x y) → ∃ fs : List Value, PySem.W.KatTups h vs fs ∧ fs.length = vs.length ∧ ∀ f ∈ fs, ∃ x t, f = Value.str x t
  | [], _ => ⟨[], PySem.W.KatTups.nil, rfl, fun f hf => by simp at hf⟩
  | v :: vs, x => by
    obtain ⟨fs, k, hl, hi⟩ := pr_firsts (vs := vs) fun u hu => x u (List.mem_cons_of_mem _ hu)
    obtain ⟨y, z, a, o, t, u, n, rfl, ho, hc, hd⟩ := x v List.mem_cons_self
    refine ⟨.str y t :: fs, PySem.W.KatTups.cons ho hc hd rfl k, by rw [List.length_cons, List.length_cons, hl], fun f hf => ?_⟩
    rcases List.mem_cons.mp hf with rfl | hf
    · exact ⟨y, t, rfl⟩
    · exact hi f hf
section
variable {prog : Program} {w : World} {A : Around} {E : Value → Shared → Prop} {s : Shared}
theorem pr_cmp {vs : List Value} {k : Value → Str × Str} (hp : ∀ v ∈ vs, IsPr s.heap v (k v).1 (k v).2) : Cmp prog w A s (tuples' true) (fun p => p.1 ∈ vs) (lt2 fun v u => lexS (k v) (k u)) := by
  intro p q hm hm'
  have h1 := hp _ hm
  have h2 := hp _ hm'
  show wpAny (model prog w) A (keyLt' (tuples' true) p.1 q.1) (fun r s' => s' = s ∧ r = lexS (k p.1) (k q.1)) (fun _ _ => False) s
  unfold lexS
  generalize (k p.1).1 = x at h1 ⊢
  generalize (k p.1).2 = y at h1 ⊢
  generalize (k q.1).1 = x' at h2 ⊢
  generalize (k q.1).2 = y' at h2 ⊢
  obtain ⟨a, o, t, u, n, e, ho, hc, hd⟩ := h1
  obtain ⟨a', o', t', u', n', e', ho', hc', hd'⟩ := h2
  rw [e, e']
  refine PySem.W.kat_lt ho hd ho' hd' ?_
  show PySem.W.KatLex prog w A true (decide (2 < 2)) _ [(.str x t, .str x' t'), (.str y u, .str y' u')] 0 s
  refine PySem.W.kat_cons (SeqAt.EqAt.str_str x t x' t' prog w _ _ ?_)
  refine PySem.W.kat_go (fun e1 => ?_) (fun e1 => ?_)
  · have ex : x = x' := by simpa using e1
    refine PySem.W.kat_yes (PySem.W.kat_cons (SeqAt.EqAt.str_str y u y' u' prog w _ _ ?_))
    refine PySem.W.kat_go (fun e2 => ?_) (fun e2 => ?_)
    · have ey : y = y' := by simpa using e2
      have e3 : (if x = x' then ltS y y' else ltS x x') = false := by
        rw [if_pos ex, ey]
        exact ltS_irr _
      exact PySem.W.kat_yes (PySem.W.kat_nil ⟨rfl, e3.symm⟩)
    · have e3 : (if x = x' then ltS y y' else ltS x x') = ltS y y' := if_pos ex
      refine PySem.W.kat_no (PySem.W.kat_one _ _ (PyProof.Rows.lt_str ?_))
      exact (show s = s ∧ decide (y.cps.toList < y'.cps.toList) = (if x = x' then ltS y y' else ltS x x') from ⟨rfl, e3.symm⟩)
  · have ex : ¬ x = x' := by simpa using e1
    have e3 : (if x = x' then ltS y y' else ltS x x') = ltS x x' := if_neg ex
    exact PySem.W.kat_no (oneLt_str ⟨rfl, e3.symm⟩)
theorem pr_sortable {a : Addr} {vs : List Value} {k : Value → Str × Str} (h0 : 0 < vs.length) (hp : ∀ v ∈ vs, IsPr s.heap v (k v).1 (k v).2) (ha : ∀ o, s.heap.get? a = some o → o.cls ≠ .type "tuple") : SortableO prog w A s a vs fun v u => lexS (k v) (k u) := by
  intro h' keep
  have hp' : ∀ v ∈ vs, IsPr h' v (k v).1 (k v).2 := fun v hm => (hp v hm).keeps fun b o e c => keep b o (fun z => by subst z; exact ha o e c) e
  obtain ⟨fs, h1, h2, h3⟩ := pr_firsts fun v hm => ⟨_, _, hp' v hm⟩
  refine ⟨tuples' true, fun Q E hq => ?_, pr_cmp hp'⟩
  refine PySem.W.kat_kind (T := .type "str") h1 (by omega) (fun f hm => ?_) (by rfl) ?_
  · obtain ⟨x, t, rfl⟩ := h3 f hm
    exact PySem.W.Looks.now
  · have e : (Value.type "str" != Value.type "tuple") = true := by first | decide +kernel | rfl | decide
    rw [e]
    exact hq
theorem sorted_prs {l : Addr} {vs : List Value} {k : Value → Str × Str} {Q : Value → Shared → Prop} (hl : s.heap.IsList l vs.toArray) (hz : vs.length ≤ sizeLine) (hp : ∀ v ∈ vs, IsPr s.heap v (k v).1 (k v).2)
    (h : ∀ (h' : Heap) (d : Addr) (out : List Value), Srtd (fun v u => lexS (k v) (k u)) out → Stb (fun v u => lexS (k v) (k u)) out vs → (∀ b o, s.heap.get? b = some o → h'.get? b = some o) → s.heap.objs.size ≤ d → (∃ n, h'.get? d = some (seqObj "list" out.toArray n)) → Q (.ref d) { s with heap := h' }) :
    wpAny (model prog w) A (call (.builtin "sorted") [.ref l]) Q E s := by
  refine sorted_ord (lexS_swo k) hl hz (fun h2 h₁ a ha kk => ?_) fun out hs hb => ?_
  · refine pr_sortable (s := { s with heap := h₁ }) (by omega) (fun v hm => (hp v hm).keeps fun b o e _ => (kk b o e).2) fun o e => ?_
    have e' : some o = some (seqObj "list" vs.toArray 0) := e.symm.trans ha
    cases e'
    intro c
    exact absurd (Value.type.inj c) (by decide)
  · exact h _ _ out hs hb (fun b o e => sortedAll_old e) (Nat.le_succ _) (sortedAll_at s.heap vs out.toArray)
end
end Xp
namespace Xp
open PySem PySem.Spec PyProof.Rows L2 Gy Xt
/-- the pair of texts at a place -/
def prOf (H : Hp) : V → Str × Str
  | .ref t => match H t with
    | some (.frz _ (.tup [.str a, .str b])) => (a, b)
    | _ => ("", "")
  | _ => ("", "")
theorem prOf_of {H : Hp} {t : Addr} {a b : Str} (h : Tz H t [.str a, .str b]) : prOf H (.ref t) = (a, b) := by
  obtain ⟨o, e, _⟩ := h
  simp only [prOf, e]
/-- v is the pair p -/
def Pr (H : Hp) (v : V) (p : Str × Str) : Prop := ∃ t, v = .ref t ∧ Tz H t [.str p.1, .str p.2]
theorem Pr.of {H : Hp} {v : V} {p : Str × Str} (h : Pr H v p) : prOf H v = p := by
  obtain ⟨t, rfl, z⟩ := h
  exact prOf_of z
theorem Pr.same {H H' : Hp} {v : V} {p : Str × Str} (h : Pr H v p) (s : Same H H') : Pr H' v p := by
  obtain ⟨t, e, z⟩ := h
  exact ⟨t, e, z.same s⟩
inductive Prs (H : Hp) : List V → List (Str × Str) → Prop
  | nil : Prs H [] []
  | cons {v : V} {p : Str × Str} {vs : List V} {ps : List (Str × Str)} (h : Pr H v p) (t : Prs H vs ps) : Prs H (v :: vs) (p :: ps)
theorem Prs.same {H H' : Hp} {vs : List V} {ps : List (Str × Str)} (h : Prs H vs ps) (s : Same H H') : Prs H' vs ps := by
  induction h with
  | nil => exact .nil
  | cons h t ih => exact .cons (h.same s) ih
theorem Prs.map {H : Hp} {vs : List V} {ps : List (Str × Str)} (h : Prs H vs ps) : ps = vs.map (prOf H) := by
  induction h with
  | nil => rfl
  | cons h t ih => rw [List.map_cons, h.of, ← ih]
theorem Prs.mem {H : Hp} {vs : List V} {ps : List (Str × Str)} (h : Prs H vs ps) : ∀ v ∈ vs, Pr H v (prOf H v) := by
  induction h with
  | nil => exact fun v z => nomatch z
  | @cons v p vs ps h t ih =>
    intro x hx
    rcases List.mem_cons.mp hx with rfl | hx
    · rw [h.of]
      exact h
    · exact ih x hx
theorem Prs.of {H : Hp} : ∀ {vs : List V}, (∀ v ∈ vs, Pr H v (prOf H v)) → Prs H vs (vs.map (prOf H))
  | [], _ => .nil
  | v :: vs, h => .cons (h v List.mem_cons_self) (Prs.of fun x hx => h x (List.mem_cons_of_mem _ hx))
theorem Prs.length {H : Hp} {vs : List V} {ps : List (Str × Str)} (h : Prs H vs ps) : vs.length = ps.length := by
  rw [h.map, List.length_map]
theorem Prs.snoc {H : Hp} {vs : List V} {ps : List (Str × Str)} {v : V} {p : Str × Str} (h : Prs H vs ps) (g : Pr H v p) : Prs H (vs ++ [v]) (ps ++ [p]) := by
  induction h with
  | nil => exact .cons g .nil
  | cons h t ih => exact .cons h ih
theorem Prs.get {H : Hp} {vs : List V} {ps : List (Str × Str)} (h : Prs H vs ps) {i : Nat} {v : V} (e : vs[i]? = some v) : ∃ p, ps[i]? = some p ∧ Pr H v p := by
  induction h generalizing i with
  | nil => simp at e
  | @cons w p vs ps h t ih =>
    cases i with
    | zero =>
      simp only [List.getElem?_cons_zero, Option.some.injEq] at e
      subst e
      exact ⟨p, rfl, h⟩
    | succ i =>
      simp only [List.getElem?_cons_succ] at e
      exact ih e
def prD (p : Str × Str) : PyData := .tuple [.str p.1, .str p.2]
theorem Prs.dns {K : PySem.W.Frag} {H : Hp} {vs : List V} {ps : List (Str × Str)} (h : Prs H vs ps) : Dns K H vs (ps.map prD) := by
  induction h with
  | nil => exact .nil
  | cons h t ih =>
    obtain ⟨t, rfl, z⟩ := h
    exact .cons (.tup z (.cons (.str _) (.cons (.str _) .nil))) ih
def leQ (p q : Str × Str) : Prop := lexS q p = false
/-- sorted(xs), xs a list of pairs of texts -/
def rSortQ (K : PySem.W.Frag) : List V → Hp → VK → Prop := fun vs H Q => ∃ (a : Addr) (xs : List V) (ps : List (Str × Str)), vs = [.ref a] ∧ SqL K H a xs ∧ Prs H xs ps ∧
  ∀ (ys : List V) (qs : List (Str × Str)) (p : Addr), qs.Perm ps → qs.Pairwise leQ → Prs H ys qs → H p = none → Q (.ref p) (upd H p (.lst ys))
section
variable {X : Cx}
theorem cr_sortQ : CallR X (.builtin "sorted") (rSortQ X.K) := by
  intro pins s σ H vs us Q I r h
  obtain ⟨a, xs, ps, rfl, hs, hp, q⟩ := h
  obtain ⟨its, rv, hl, hz⟩ := I.list hs
  obtain ⟨u, rfl, ru⟩ := vals1 r
  obtain rfl : u = Value.ref a := ru
  have hx := hp.mem
  obtain ⟨e1, e2⟩ := refs_back rv fun x m => by
    obtain ⟨t, e, _⟩ := hx x m
    exact ⟨t, e⟩
  refine sorted_prs (k := fun u => prOf H (backV u)) hl.isList (by rw [← rv.length]; exact hz) (fun v hv => ?_) fun h' d out h1 h2 kp hd hn => ?_
  · obtain ⟨t, rfl⟩ := e2 v hv
    have hm : V.ref t ∈ xs := by rw [e1]; exact List.mem_map.mpr ⟨_, hv, rfl⟩
    obtain ⟨t', e, z⟩ := hx _ hm
    cases e
    obtain ⟨its2, r2, ⟨o, ho, hc, n, hd⟩, _⟩ := I.tuple z.sq
    obtain ⟨u1, u2, rfl, ri, rj⟩ := vals2 r2
    obtain ⟨t1, rfl⟩ := ri
    obtain ⟨t2, rfl⟩ := rj
    exact ⟨t, o, t1, t2, n, rfl, ho, hc, hd⟩
  · have h3 : ∀ u ∈ out, ∃ a, u = Value.ref a := fun u hu => e2 u (h2.perm.mem_iff.mp hu)
    obtain ⟨n, hn⟩ := hn
    have pm : (out.map backV).Perm xs := by
      rw [e1]
      exact h2.perm.map backV
    have hy : Prs H (out.map backV) ((out.map backV).map (prOf H)) := Prs.of fun v hv => hx v (pm.mem_iff.mp hv)
    have pm2 : ((out.map backV).map (prOf H)).Perm ps := by
      rw [hp.map]
      exact pm.map _
    refine ⟨.ref d, upd H d (.lst (out.map backV)), I.laid (t' := s.toks) kp hd ⟨?_, out, n, vals_back h3, hn⟩, rfl, q _ _ d pm2 ?_ hy (I.hok.fresh hd)⟩
    · rw [pm.length_eq]
      exact hz
    · rw [List.map_map]
      exact List.pairwise_map.mpr h1
end
/-- one sorted arrangement -/
theorem leQ_anti {p q : Str × Str} (h1 : leQ p q) (h2 : leQ q p) : p = q := by
  unfold leQ lexS at h1 h2
  by_cases e : p.1 = q.1
  · rw [if_pos e.symm] at h1
    rw [if_pos e] at h2
    exact Prod.ext e (ltS_tri h2 h1)
  · rw [if_neg fun z => e z.symm] at h1
    rw [if_neg e] at h2
    exact absurd (ltS_tri h2 h1) e
theorem sortQ_one : ∀ {ys zs : List (Str × Str)}, ys.Perm zs → ys.Pairwise leQ → zs.Pairwise leQ → ys = zs
  | [], zs, p, _, _ => (List.Perm.eq_nil p.symm).symm
  | y :: ys, [], p, _, _ => absurd (List.Perm.eq_nil p) (by simp)
  | y :: ys, z :: zs, p, h1, h2 => by
    have e : y = z := by
      have m1 : y ∈ z :: zs := p.mem_iff.mp List.mem_cons_self
      have m2 : z ∈ y :: ys := p.mem_iff.mpr List.mem_cons_self
      rcases List.mem_cons.mp m1 with e | m1
      · exact e
      · rcases List.mem_cons.mp m2 with e | m2
        · exact e.symm
        · exact leQ_anti ((List.pairwise_cons.mp h1).1 z m2) ((List.pairwise_cons.mp h2).1 y m1)
    subst e
    rw [sortQ_one (List.perm_cons y |>.mp p) (List.pairwise_cons.mp h1).2 (List.pairwise_cons.mp h2).2]
end Xp

/-! A method's call in a try: what is raised is wished for at the caller's slots. -/
namespace Xo
open PySem PySem.Spec PyProof.Rows L2 Gy Xt
section
variable {X : Cx} {CX : CXT} {k : Nat} {f C : Addr} {fd : FuncData} {ps : List Str} {sp : Sp} {E : L2.St → XK} {m : Str} {pos apos : Pos} {e o : Expr} {es : List Expr} {ta : TE} {t : TA}
def tMethT (C : Addr) (m : Str) (sp : Sp) (E : L2.St → XK) (ta : TE) (t : TA) : TE := fun σ H Q => ta σ H fun x H1 => ∃ a dx fs, x = .ref a ∧ H1 a = some (.ins C dx fs) ∧ fs.lookup m = none ∧ t σ H1 fun vs H2 => sp (x :: vs) H2 Q (E σ)
theorem pe_methT {pl : Sem Bool} (he : PE X o ta) (c : Cls X.K C) (hm : Meth X.K C m f) (F : FnOk X.prog X.w X.K X.mg X.base CX k f fd ps sp) (hr : Room k X.A) (hb : Binds X.K fd ps []) (hx : ∀ σ, PassesAt CX X σ (E σ)) (ha : PA X (e :: es) t)
    (h1 : starEach (e :: es) X.env = (false, eval e X.env) :: starEach es X.env := by rfl) (h2 : (backTo pos (starEach es X.env)).any (·.1) = false := by rfl)
    (h3 : eval (.Call (.Attribute o m apos) (e :: es) [] pos) X.env = (do let ov ← eval o X.env; standAt apos.atName; let (f, first) ← holding [ov] (getMethod ov m pl); callWith pos f first (backTo pos (starEach (e :: es) X.env)) (backToKw pos (keywordEach [] X.env))) := by rfl) :
    PE X (.Call (.Attribute o m apos) (e :: es) [] pos) (tMethT C m sp E ta t) := by
  constructor
  intro pins s σ H Q I h
  refine PySem.W.methodCall_KW (pl := pl) (thn (he.run pins s σ H _ I h) fun u s1 w1 => ?_) h3
  obtain ⟨x, H1, I1, rx, a, dx, fs, rfl, ea, l, q⟩ := w1
  obtain rfl : u = .ref a := rx
  refine getmeth_ok I1 ea c hm l (PySem.W.callWith_K (first := [.ref a]) (h₀ := X.base) I.ok.mod.kin hm.kp (thn (ha.run pos pins s1 σ H1 _ I1 q) fun us s2 w2 => ?_) h1 h2)
  obtain ⟨vs, H2, I2, r, q2⟩ := w2
  exact ⟨I2.kIn, run_fnS (us := .ref a :: us) (vs := .ref a :: vs) F hr hb (hx σ) I2 (.cons rfl r) q2⟩
def tMethK (C : Addr) (m : Str) (n : Nat) (sp : Sp) (gV : List V → List V → List V) (E : XK) (ta : TE) (tk : TA) : TE := fun σ H Q => ta σ H fun x H1 => ∃ a dx fs, x = .ref a ∧ H1 a = some (.ins C dx fs) ∧ fs.lookup m = none ∧ tk σ H1 fun zs H2 => zs.length = n ∧ sp (gV [x] zs) H2 Q E
/-- o.m(k = v, ..) -/
theorem pe_methK {pl : Sem Bool} {ks : List Str} {E : XK} {kws : List Keyword} {tk : TA} {g : List Value → List Value → List Value} {gV : List V → List V → List V} (he : PE X o ta) (c : Cls X.K C) (hm : Meth X.K C m f) (F : FnOk X.prog X.w X.K X.mg X.base CX k f fd ps sp) (hr : Room k X.A) (hb : KBn X.K fd ps 1 ks g gV) (hx : Passes CX X E) (hkw : PK X kws tk)
    (h1 : (backToKw pos (keywordEach kws X.env)).all (·.1.isSome) = true := by rfl) (h4 : (backToKw pos (keywordEach kws X.env)).filterMap (·.1) = ks := by rfl) (h2 : ((backTo pos (starEach [] X.env)).any (·.1) || (backToKw pos (keywordEach kws X.env)).any (·.1.isNone)) = false := by rfl)
    (h3 : eval (.Call (.Attribute o m apos) [] kws pos) X.env = (do let ov ← eval o X.env; standAt apos.atName; let (f, first) ← holding [ov] (getMethod ov m pl); callWith pos f first (backTo pos (starEach [] X.env)) (backToKw pos (keywordEach kws X.env))) := by rfl) :
    PE X (.Call (.Attribute o m apos) [] kws pos) (tMethK C m ks.length sp gV E ta tk) := by
  constructor
  intro pins s σ H Q I h
  refine PySem.W.methodCall_KW (pl := pl) (thn (he.run pins s σ H _ I h) fun u s1 w1 => ?_) h3
  obtain ⟨x, H1, I1, rx, a, dx, fs, rfl, ea, l, q⟩ := w1
  obtain rfl : u = .ref a := rx
  refine getmeth_ok I1 ea c hm l (PySem.W.callWith_KW0 (first := [.ref a]) (h₀ := X.base) I.ok.mod.kin hm.kp h1 (thn (hkw.run pos pins s1 σ H1 _ I1 q) fun us s2 w2 => ?_) h2)
  obtain ⟨zs, H2, I2, rz, l2, q2⟩ := w2
  rw [h4]
  exact ⟨I2.kIn, run_fnN (us := [.ref a]) (vs := [.ref a]) F hr hb hx I2 (.cons rfl .nil) rz rfl l2 q2⟩
end
end Xo

namespace My
open PySem PySem.Spec PyProof.Rows L2 Gy Xl Xs Xt Xo Xp
/-! ### hosts -/
structure HS where
  nm : Str
  lk : List Str
  lg : List PyData
  jn : Option (List Str × Nat)
  sg : Str
  qu : List PyData
  an : List PyData
/-- where its parts lie -/
structure HA where
  Lk : Addr
  Ll : Addr
  Lq : Addr
  La : Addr
  jv : V
  dx : Addr
def Jnd (H : Hp) (v : V) : Option (List Str × Nat) → Prop
  | none => v = .non
  | some (xs, c) => ∃ t pa, v = .ref t ∧ Tz H t [.ref pa, .int (c : Int)] ∧ Tz H pa (xs.map V.str)
structure Hst (K : PySem.W.Frag) (C : Addr) (H : Hp) (h : Addr) (st : HS) (ad : HA) : Prop where
  at_ : H h = some (.ins C ad.dx [("own_name", .str st.nm), ("linked", .ref ad.Lk), ("logged", .ref ad.Ll), ("joined", ad.jv), ("stage", .str st.sg), ("queued", .ref ad.Lq), ("finished", .ref ad.La)])
  lk : H ad.Lk = some (.lst (st.lk.map V.str))
  lg : ∃ vs, H ad.Ll = some (.lst vs) ∧ Dns K (fz H) vs st.lg
  jn : Jnd (fz H) ad.jv st.jn
  qu : ∃ vs, H ad.Lq = some (.lst vs) ∧ Dns K (fz H) vs st.qu
  an : ∃ vs, H ad.La = some (.lst vs) ∧ Dns K (fz H) vs st.an
  sep : ad.Lk ≠ ad.Ll ∧ ad.Lk ≠ ad.Lq ∧ ad.Lk ≠ ad.La ∧ ad.Ll ≠ ad.Lq ∧ ad.Ll ≠ ad.La ∧ ad.Lq ≠ ad.La
structure Ch (K : PySem.W.Frag) (C : Addr) : Prop where
  cl : Cls K C
  n1 : PySem.W.findIn K (.ref C) "own_name" = some none
  n2 : PySem.W.findIn K (.ref C) "linked" = some none
  n3 : PySem.W.findIn K (.ref C) "logged" = some none
  n4 : PySem.W.findIn K (.ref C) "joined" = some none
  n5 : PySem.W.findIn K (.ref C) "stage" = some none
  n6 : PySem.W.findIn K (.ref C) "queued" = some none
  n7 : PySem.W.findIn K (.ref C) "finished" = some none
theorem Jnd.same {H H' : Hp} {v : V} {j : Option (List Str × Nat)} (h : Jnd H v j) (s : Same H H') : Jnd H' v j := by
  match j, h with
  | none, h => exact h
  | some (xs, c), ⟨t, pa, e, a, b⟩ => exact ⟨t, pa, e, a.same s, b.same s⟩
theorem Hst.same {K : PySem.W.Frag} {C : Addr} {H H' : Hp} {h : Addr} {st : HS} {ad : HA} (x : Hst K C H h st ad) (s : Same H H') : Hst K C H' h st ad := by
  obtain ⟨v1, a1, b1⟩ := x.lg
  obtain ⟨v2, a2, b2⟩ := x.qu
  obtain ⟨v3, a3, b3⟩ := x.an
  have f := fz_keep (FzK.of s)
  exact ⟨s _ _ x.at_, s _ _ x.lk, ⟨v1, s _ _ a1, b1.same f⟩, x.jn.same f, ⟨v2, s _ _ a2, b2.same f⟩, ⟨v3, s _ _ a3, b3.same f⟩, x.sep⟩
section
variable {P : Program} {w : World} {K : PySem.W.Frag} {mg : Str → Option Value} {base : Heap} {H : Hp} {C : Addr}
/-- all but one address stands -/
def Off (h : Addr) (H H' : Hp) : Prop := ∀ x o, H x = some o → x ≠ h → H' x = some o
theorem sq_off {h a dx : Addr} {H H' : Hp} {fs : List (Str × V)} {xs : List V} (s : SqL K H a xs) (hh : H h = some (.ins C dx fs)) (o : Off h H H') : SqL K H' a xs := by
  rcases s with (s | ⟨u, s⟩) | s
  · exact .inl (.inl (o _ _ s (ne_of s hh (fun z => nomatch z))))
  · exact .inl (.inr ⟨u, o _ _ s (ne_of s hh (fun z => nomatch z))⟩)
  · exact .inr s
theorem st_off {h a dx : Addr} {H H' : Hp} {fs : List (Str × V)} {xs : List V} (s : SqT K H a xs) (hh : H h = some (.ins C dx fs)) (o : Off h H H') : SqT K H' a xs := by
  rcases s with (s | ⟨u, s⟩) | s
  · exact .inl (.inl (o _ _ s (ne_of s hh (fun z => nomatch z))))
  · exact .inl (.inr ⟨u, o _ _ s (ne_of s hh (fun z => nomatch z))⟩)
  · exact .inr s
theorem Off.refl (h : Addr) (H : Hp) : Off h H H := fun _ _ e _ => e
theorem Off.upd {h : Addr} {H H' : Hp} {u : HO} (o : Off h H H') : Off h H (L2.upd H' h u) := fun x v e n => by
  rw [upd_ne n]
  exact o x v e n
theorem Off.new {h l : Addr} {H H' : Hp} {u : HO} (o : Off h H H') (n : H' l = none) : Off h H (L2.upd H' l u) := fun x v e nx => by
  rw [upd_ne (ne_of_none (o x v e nx) n)]
  exact o x v e nx
theorem Off.none {h l dx : Addr} {H H' : Hp} {fs' : List (Str × V)} (o : Off h H H') (h1 : H' h = some (.ins C dx fs')) (n : H' l = none) : H l = none := by
  cases z : H l with
  | none => rfl
  | some u =>
    have ne : l ≠ h := fun e => by rw [e, h1] at n; cases n
    rw [o _ _ z ne] at n
    cases n
theorem FzK.off {h dx : Addr} {H H' : Hp} {fs : List (Str × V)} (hh : H h = some (.ins C dx fs)) (o : Off h H H') : FzK H H' := fun b ob u e => o b _ e (ne_of e hh (fun z => nomatch z))
def spHInit (K : PySem.W.Frag) (C : Addr) : Sp := fun vs H Q _ => ∃ (h l g dx : Addr) (nm : Str) (xs : List Str) (us : List V) (lg : List PyData), vs = [.ref h, .str nm, .ref l, .ref g] ∧ H h = some (.ins C dx []) ∧ (SqL K H l (xs.map V.str) ∨ SqT K H l (xs.map V.str)) ∧ xs.length < 64 ∧ (SqL K H g us ∨ SqT K H g us) ∧ Dns K (fz H) us lg ∧
  ∀ H' ad ys, Off h H H' → FzK H H' → Hst K C H' h ⟨nm, ys, lg, none, "free", [], []⟩ ad → sortedS ys = true → ys.Nodup → (∀ x, x ∈ ys ↔ x ∈ xs) → H ad.Lk = none → H ad.Ll = none → H ad.Lq = none → H ad.La = none → Q .non H'
theorem ok_hinit {f : Addr} {fd : FuncData} (F : Fun K "__init__" "Host.__init__" m_init f fd) (Y : Bn mg) (T : Ch K C) : FnOk P w K mg base CX0 1 f fd ["self", "name", "links", "log"] (spHInit K C) := by
  refine F.ok scm_init (fun vs H Q E h => ?_) (fun cdv A outer s H vs Q E hr h => ?_)
  · obtain ⟨h, l, g, dx, nm, xs, us, lg, rfl, _⟩ := h
    rfl
  · obtain ⟨h, l, g, dx, nm, xs, us, lg, rfl, hh, sq, few, hg, dg, q⟩ := h
    refine ⟨_, (pss_cons (ps_fld (pv 0) (pv 1) rfl)
 (pss_cons (ps_fld (pv 0) (pe_srtSet (by rfl) Y.sorted (by rfl) Y.set (pv 2)) rfl)
 (pss_cons (ps_fld (pv 0) (pe_callTy call_list_of (by rfl) Y.list (by decide +kernel) (pa_cons (pv 3) pa_nil)) rfl)
 (pss_cons (ps_fld (pv 0) pe_non rfl)
 (pss_cons (ps_fld (pv 0) pe_str rfl)
 (pss_cons (ps_fld (pv 0) (pe_lst pa_nil) rfl)
 (pss_one (ps_fld (pv 0) (pe_lst pa_nil) rfl)))))))), ?_⟩
    refine ⟨_, rfl, _, rfl, h, C, dx, [], rfl, hh, T.cl, T.n1, by decide, ?_⟩
    have o1 : Off h H (upd H h (.ins C dx [("own_name", .str nm)])) := (Off.refl h H).upd
    have g1 : (upd H h (.ins C dx [("own_name", .str nm)])) h = some (.ins C dx [("own_name", .str nm)]) := upd_same
    show tSeq _ _ _ _ (upd H h (.ins C dx [("own_name", .str nm)]))
    generalize upd H h (.ins C dx [("own_name", .str nm)]) = H1 at o1 g1 ⊢
    refine ⟨_, rfl, l, xs, rfl, sq.imp (fun z => sq_off z hh o1) (fun z => st_off z hh o1), few, fun ys Lk srt nd mem nk => ?_⟩
    have o2 := o1.new (u := .lst (ys.map V.str)) nk
    have g2 : (upd H1 Lk (.lst (ys.map V.str))) h = some (.ins C dx [("own_name", .str nm)]) := same_upd nk _ _ g1
    have k2 : (upd H1 Lk (.lst (ys.map V.str))) Lk = some (.lst (ys.map V.str)) := upd_same
    have nk0 := o1.none g1 nk
    generalize upd H1 Lk (.lst (ys.map V.str)) = H2 at o2 g2 k2 ⊢
    refine ⟨_, rfl, h, C, dx, _, rfl, g2, T.cl, T.n2, (by show 1 < 1000; decide), ?_⟩
    show tSeq _ _ _ _ (upd H2 h (.ins C dx [("own_name", .str nm), ("linked", .ref Lk)]))
    have hk : Lk ≠ h := ne_of k2 g2 (fun z => nomatch z)
    have o3 := o2.upd (u := .ins C dx [("own_name", .str nm), ("linked", .ref Lk)])
    have g3 : (upd H2 h (.ins C dx [("own_name", .str nm), ("linked", .ref Lk)])) h = _ := upd_same
    have k3 := (upd_ne (H := H2) (o := .ins C dx [("own_name", .str nm), ("linked", .ref Lk)]) hk).trans k2
    generalize upd H2 h (.ins C dx [("own_name", .str nm), ("linked", .ref Lk)]) = H3 at o3 g3 k3 ⊢
    refine ⟨_, rfl, g, us, rfl, hg.imp (fun z => sq_off z hh o3) (fun z => st_off z hh o3), fun Ll nl => ?_⟩
    have nl0 := o3.none g3 nl
    have o4 := o3.new (u := .lst us) nl
    have s4 := same_upd (o := .lst us) nl
    have g4 := s4 _ _ g3
    have k4 := s4 _ _ k3
    have l4 : (upd H3 Ll (.lst us)) Ll = some (.lst us) := upd_same
    generalize upd H3 Ll (.lst us) = H4 at o4 g4 k4 l4 ⊢
    refine ⟨_, rfl, h, C, dx, _, rfl, g4, T.cl, T.n3, (by show 2 < 1000; decide), ?_⟩
    show tSeq _ _ _ _ (upd H4 h (.ins C dx [("own_name", .str nm), ("linked", .ref Lk), ("logged", .ref Ll)]))
    have hl : Ll ≠ h := ne_of l4 g4 (fun z => nomatch z)
    refine ⟨_, rfl, h, C, dx, _, rfl, upd_same, T.cl, T.n4, (by show 3 < 1000; decide), ?_⟩
    rw [upd_upd]
    refine ⟨_, rfl, h, C, dx, _, rfl, upd_same, T.cl, T.n5, (by show 4 < 1000; decide), ?_⟩
    rw [upd_upd]
    show tSeq _ _ _ _ (upd H4 h (.ins C dx [("own_name", .str nm), ("linked", .ref Lk), ("logged", .ref Ll), ("joined", .non), ("stage", .str "free")]))
    have o5 := o4.upd (u := .ins C dx [("own_name", .str nm), ("linked", .ref Lk), ("logged", .ref Ll), ("joined", .non), ("stage", .str "free")])
    have g5 : (upd H4 h (.ins C dx [("own_name", .str nm), ("linked", .ref Lk), ("logged", .ref Ll), ("joined", .non), ("stage", .str "free")])) h = _ := upd_same
    have k5 := (upd_ne (H := H4) (o := .ins C dx [("own_name", .str nm), ("linked", .ref Lk), ("logged", .ref Ll), ("joined", .non), ("stage", .str "free")]) hk).trans k4
    have l5 := (upd_ne (H := H4) (o := .ins C dx [("own_name", .str nm), ("linked", .ref Lk), ("logged", .ref Ll), ("joined", .non), ("stage", .str "free")]) hl).trans l4
    generalize upd H4 h (.ins C dx [("own_name", .str nm), ("linked", .ref Lk), ("logged", .ref Ll), ("joined", .non), ("stage", .str "free")]) = H5 at o5 g5 k5 l5 ⊢
    refine ⟨Nat.zero_le _, fun Lq nq => ?_⟩
    have nq0 := o5.none g5 nq
    have s6 := same_upd (o := .lst []) nq
    have o6 := o5.new (u := .lst []) nq
    have g6 := s6 _ _ g5
    have k6 := s6 _ _ k5
    have l6 := s6 _ _ l5
    have q6 : (upd H5 Lq (.lst [])) Lq = some (.lst []) := upd_same
    generalize upd H5 Lq (.lst []) = H6 at o6 g6 k6 l6 q6 ⊢
    refine ⟨_, rfl, h, C, dx, _, rfl, g6, T.cl, T.n6, (by show 5 < 1000; decide), ?_⟩
    dsimp only
    rw [show putF "queued" (V.ref Lq) [("own_name", V.str nm), ("linked", .ref Lk), ("logged", .ref Ll), ("joined", .non), ("stage", .str "free")] = ([("own_name", .str nm), ("linked", .ref Lk), ("logged", .ref Ll), ("joined", .non), ("stage", .str "free"), ("queued", .ref Lq)] : List (Str × V)) from rfl]
    have hq : Lq ≠ h := ne_of q6 g6 (fun z => nomatch z)
    have o7 := o6.upd (u := .ins C dx [("own_name", .str nm), ("linked", .ref Lk), ("logged", .ref Ll), ("joined", .non), ("stage", .str "free"), ("queued", .ref Lq)])
    have g7 : (upd H6 h (.ins C dx [("own_name", .str nm), ("linked", .ref Lk), ("logged", .ref Ll), ("joined", .non), ("stage", .str "free"), ("queued", .ref Lq)])) h = _ := upd_same
    have k7 := (upd_ne (H := H6) (o := .ins C dx [("own_name", .str nm), ("linked", .ref Lk), ("logged", .ref Ll), ("joined", .non), ("stage", .str "free"), ("queued", .ref Lq)]) hk).trans k6
    have l7 := (upd_ne (H := H6) (o := .ins C dx [("own_name", .str nm), ("linked", .ref Lk), ("logged", .ref Ll), ("joined", .non), ("stage", .str "free"), ("queued", .ref Lq)]) hl).trans l6
    have q7 := (upd_ne (H := H6) (o := .ins C dx [("own_name", .str nm), ("linked", .ref Lk), ("logged", .ref Ll), ("joined", .non), ("stage", .str "free"), ("queued", .ref Lq)]) hq).trans q6
    generalize upd H6 h (.ins C dx [("own_name", .str nm), ("linked", .ref Lk), ("logged", .ref Ll), ("joined", .non), ("stage", .str "free"), ("queued", .ref Lq)]) = H7 at o7 g7 k7 l7 q7 ⊢
    refine ⟨Nat.zero_le _, fun La na => ?_⟩
    have na0 := o7.none g7 na
    have s8 := same_upd (o := .lst []) na
    have o8 := o7.new (u := .lst []) na
    have g8 := s8 _ _ g7
    have k8 := s8 _ _ k7
    have l8 := s8 _ _ l7
    have q8 := s8 _ _ q7
    have a8 : (upd H7 La (.lst [])) La = some (.lst []) := upd_same
    generalize upd H7 La (.lst []) = H8 at o8 g8 k8 l8 q8 a8 ⊢
    refine ⟨_, rfl, h, C, dx, _, rfl, g8, T.cl, T.n7, (by show 6 < 1000; decide), ?_⟩
    have ha : La ≠ h := ne_of a8 g8 (fun z => nomatch z)
    show Q .non (upd H8 h (.ins C dx [("own_name", .str nm), ("linked", .ref Lk), ("logged", .ref Ll), ("joined", .non), ("stage", .str "free"), ("queued", .ref Lq), ("finished", .ref La)]))
    have o9 := o8.upd (u := .ins C dx [("own_name", .str nm), ("linked", .ref Lk), ("logged", .ref Ll), ("joined", .non), ("stage", .str "free"), ("queued", .ref Lq), ("finished", .ref La)])
    have fk := FzK.off hh o9
    refine q _ ⟨Lk, Ll, Lq, La, .non, dx⟩ ys o9 fk ⟨upd_same, (upd_ne hk).trans k8, ⟨us, (upd_ne hl).trans l8, dg.same (fz_keep fk)⟩, rfl, ⟨[], (upd_ne hq).trans q8, .nil⟩, ⟨[], (upd_ne ha).trans a8, .nil⟩, ⟨ne_of_none k3 nl, ne_of_none k5 nq, ne_of_none k7 na, ne_of_none l5 nq, ne_of_none l7 na, ne_of_none q7 na⟩⟩ srt nd mem nk0 nl0 nq0 na0
end
end My

namespace My
open PySem PySem.Spec PyProof.Rows L2 Gy Xl Xs Xt
/-! ### texts or None, cuts of a path, drawn relinks -/
def optV : Option Str → V
  | none => .non
  | some s => .str s
/-- the text at a place, counted from the end -/
def fromEnd (xs : List Str) (n : Nat) : Str := xs.getD (xs.length - n) ""
theorem inV_non : ∀ xs : List Str, inV .non (xs.map V.str) = false
  | [] => rfl
  | x :: xs => by
    have ih := inV_non xs
    unfold inV at ih ⊢
    rw [List.map_cons, List.any_cons, ih]
    rfl
theorem flat_opt (src : Option Str) : flatV (optV src) = true := by
  cases src <;> rfl
/-- the one text at a place, or none -/
def one (xs : List Str) (m n : Nat) : List Str := (xs.drop m).take (n - m)
theorem cut_one (xs : List Str) (m n : Nat) (hm : m ≤ xs.length) : cutV (xs.map V.str) (some (m : Int)) (some (n : Int)) = (one xs m n).map V.str := by
  unfold cutV one
  rw [HT.sIx_nat, HT.sIx_nat, List.length_map, Nat.min_eq_left hm, ← List.map_drop, ← List.map_take]
  congr 1
  by_cases h : n ≤ xs.length
  · rw [Nat.min_eq_left h]
  · rw [Nat.min_eq_right (by omega), List.take_of_length_le (by rw [List.length_drop]; omega), List.take_of_length_le (by rw [List.length_drop]; omega)]
theorem one_at {xs : List Str} {m : Nat} (h : m < xs.length) : one xs m (m + 1) = [xs.getD m ""] := by
  unfold one
  rw [show m + 1 - m = 1 by omega, List.drop_eq_getElem_cons h, List.take_succ_cons, List.take_zero, List.getD_eq_getElem?_getD, List.getElem?_eq_getElem h]
  rfl
theorem one_out {xs : List Str} {m n : Nat} (h : xs.length ≤ m) : one xs m n = [] := by
  unfold one
  rw [List.drop_eq_nil_of_le h, List.take_nil]
theorem one_nil {xs : List Str} {m : Nat} : one xs m m = [] := by
  unfold one
  rw [Nat.sub_self]
  rfl
theorem one_len (xs : List Str) (m : Nat) : (one xs m (m + 1)).length ≤ 1 := by
  unfold one
  rw [List.length_take]
  omega
theorem one_sub {xs : List Str} {m n : Nat} {y : Str} (h : y ∈ one xs m n) : y ∈ xs := List.mem_of_mem_drop (List.mem_of_mem_take h)
theorem scal_opt (y : Str) (src : Option Str) : scal (.str y) (optV src) = true := by
  cases src <;> rfl
theorem _root_.Xt.Tz.but {H H' : Hp} {a r : Addr} {xs : List V} (h : Tz H a xs) (R : Rng H r) (b : But r H H') : Tz H' a xs := by
  obtain ⟨o, e, c⟩ := h
  refine ⟨o, b a _ (fun z => ?_) e, c⟩
  obtain ⟨x, y, e2, _⟩ := R
  rw [z, e2] at e
  cases e
theorem _root_.Xt.Tz.updL {H : Hp} {a D : Addr} {xs l : List V} {o : HO} (h : Tz H a xs) (hD : H D = some (.lst l)) : Tz (upd H D o) a xs := by
  obtain ⟨ob, e, c⟩ := h
  refine ⟨ob, ?_, c⟩
  rw [upd_ne (fun z => by rw [z, hD] at e; cases e)]
  exact e
theorem cut2 (xs : List Str) (h : 2 ≤ xs.length) : cutV (xs.map V.str) (some 2) none = (xs.drop 2).map V.str ∧ cutV (xs.map V.str) none (some 2) = (xs.take 2).map V.str := by
  have e : HT.sIx (xs.map V.str).length 0 (some 2) = 2 := by
    rw [show (some 2 : Option Int) = some ((2 : Nat) : Int) from rfl, HT.sIx_nat, List.length_map]
    omega
  have e2 : HT.sIx (xs.map V.str).length (xs.map V.str).length (some 2) = 2 := by
    rw [show (some 2 : Option Int) = some ((2 : Nat) : Int) from rfl, HT.sIx_nat, List.length_map]
    omega
  constructor
  · unfold cutV
    rw [e, HT.sIx_none, List.take_of_length_le (by rw [List.length_drop]; exact Nat.le_refl _), List.map_drop]
  · unfold cutV
    rw [e2, HT.sIx_none, List.drop_zero, Nat.sub_zero, List.map_take]
def spLaw (K : PySem.W.Frag) : Sp := fun vs H Q _ => ∃ (a : Addr) (ns : List Int), vs = [.ref a] ∧ SqL K H a (ns.map V.int) ∧ ns.length ≤ 63 ∧ ∀ H', Q (.bl true) H'
theorem at_end2 {xs : List Str} (h : 2 ≤ xs.length) : atI (xs.map V.str) (-2) = some (.str (fromEnd xs 2)) := by
  have l : (xs.map V.str).length = xs.length := List.length_map ..
  have e : ixN (xs.map V.str).length (-2) = some (xs.length - 2) := by
    unfold ixN
    rw [if_neg (by omega), if_pos (by omega), l]
    congr 1
    omega
  show (ixN (xs.map V.str).length (-2)).bind (fun j => (xs.map V.str)[j]?) = _
  rw [e]
  show (xs.map V.str)[xs.length - 2]? = _
  unfold fromEnd
  rw [List.getD_eq_getElem?_getD, List.getElem?_map, List.getElem?_eq_getElem (by omega)]
  rfl
theorem strs_inj : ∀ {a b : List Str}, a.map PyData.str = b.map PyData.str → a = b
  | [], [], _ => rfl
  | [], y :: b, h => nomatch h
  | x :: a, [], h => nomatch h
  | x :: a, y :: b, h => by
    rw [List.map_cons, List.map_cons] at h
    injection h with h1 h2
    injection h1 with h1
    rw [h1, strs_inj h2]
theorem reld_inj {xs ys : List Str} {c d : Nat} (h : reld xs c = reld ys d) : xs = ys ∧ c = d := by
  unfold reld at h
  injection h with e1
  injection e1 with e1 e2
  injection e1 with e1
  injection e2 with e2
  injection e2 with e2
  exact ⟨strs_inj e1, by omega⟩
theorem txts_map : ∀ xs : List Str, txts (xs.map PyData.str) = xs
  | [] => rfl
  | x :: xs => by
    show x :: txts (xs.map PyData.str) = _
    rw [txts_map xs]
theorem host_of {x : Str} (h : Nm x) : isHost (.str x) = true := by
  obtain ⟨h1, h2, h3⟩ := h
  show (decide ((1 : Int) ≤ (x.length : Int)) && decide ((x.length : Int) ≤ 8) && allIn LET x) = true
  rw [decide_eq_true (show (1 : Int) ≤ (x.length : Int) by omega), decide_eq_true (show (x.length : Int) ≤ 8 by omega)]
  unfold allIn
  rw [Bool.true_and, Bool.true_and, List.all_eq_true]
  exact fun c hc => decide_eq_true (h3 c hc)
/-- a drawn relink is one -/
theorem rel_of {xs : List Str} {c : Nat} (nm : ∀ x ∈ xs, Nm x) (nd : xs.Nodup) (l3 : 3 ≤ xs.length) (cl : c + 2 ≤ xs.length) : isRel (reld xs c) = true := by
  show (isPath (.tuple (xs.map PyData.str)) && isIdx (((xs.map PyData.str).length : Int) - 1) (.int (c : Int))) = true
  rw [isPath_t, isIdx_i, txts_map, List.length_map, decide_eq_true l3, decide_eq_true nd, decide_eq_true (show (0 : Int) ≤ (c : Int) by omega), decide_eq_true (show (c : Int) < (xs.length : Int) - 1 by omega)]
  have e : (xs.map PyData.str).all isHost = true := by
    rw [List.all_eq_true]
    intro d hd
    obtain ⟨x, hx, rfl⟩ := List.mem_map.mp hd
    exact host_of (nm x hx)
  rw [e]
  rfl
theorem smls_strs : ∀ {xs : List Str}, (∀ x ∈ xs, Nm x) → smls (xs.map PyData.str) = true
  | [], _ => rfl
  | x :: xs, h => by
    show (decide (x.length ≤ 20) && smls (xs.map PyData.str)) = true
    have := (h x List.mem_cons_self).2.1
    rw [smls_strs fun y hy => h y (List.mem_cons_of_mem _ hy), decide_eq_true (show x.length ≤ 20 by omega)]
    rfl
theorem sml_reld {xs : List Str} {c : Nat} (nm : ∀ x ∈ xs, Nm x) (l14 : xs.length ≤ 14) (cl : c + 2 ≤ xs.length) : sml (reld xs c) = true := by
  show (decide (2 ≤ 14) && ((decide ((xs.map PyData.str).length ≤ 14) && smls (xs.map PyData.str)) && (true && true))) = true
  rw [smls_strs nm, List.length_map, decide_eq_true l14]
  rfl
theorem dns_strs {K : PySem.W.Frag} {H : Hp} : ∀ xs : List Str, Dns K H (xs.map V.str) (xs.map PyData.str)
  | [] => .nil
  | x :: xs => .cons (.str x) (dns_strs xs)
theorem dn_reld {K : PySem.W.Frag} {H : Hp} {a b : Addr} {xs : List Str} {c : Nat} (ha : Tz H a [.ref b, .int (c : Int)]) (hb : Tz H b (xs.map V.str)) : Dn K H (.ref a) (reld xs c) :=
  .tup ha (.cons (.tup hb (dns_strs xs)) (.cons (.int _) .nil))
theorem getD_mem {xs : List Str} {j : Nat} (h : j < xs.length) : xs.getD j "" ∈ xs := by
  rw [List.getD_eq_getElem?_getD, List.getElem?_eq_getElem h]
  exact List.getElem_mem h
theorem posn_at {xs : List Str} {j : Nat} (nd : xs.Nodup) (h : j < xs.length) : posn xs (.str (xs.getD j "")) = some j := by
  show (if xs.getD j "" ∈ xs then some (xs.idxOf (xs.getD j "")) else none) = some j
  rw [if_pos (getD_mem h), List.getD_eq_getElem?_getD, List.getElem?_eq_getElem h]
  show some (xs.idxOf xs[j]) = some j
  rw [nd.idxOf_getElem j h]
theorem posn_lt {xs : List Str} {e : PyData} {j : Nat} (h : posn xs e = some j) : j < xs.length := by
  cases e with
  | str x =>
    have h' : (if x ∈ xs then some (xs.idxOf x) else none) = some j := h
    by_cases m : x ∈ xs
    · rw [if_pos m] at h'
      cases h'
      exact List.idxOf_lt_length_of_mem m
    · rw [if_neg m] at h'
      cases h'
  | _ => cases h
end My

namespace My
open PySem PySem.Spec PyProof.Rows L2 Gy Xl Xs Xt
/-! ### how a host forwards -/
def fresh (xs : List Str) : Option Str → Bool
  | none => true
  | some s => !inV (.str s) (xs.map V.str)
def endB (o m : Bool) : V := if (o && !m) = true then .non else .int 0
def fwd (xs : List Str) (c j : Nat) (ph : Str) (src : Option Str) (g : Str) (b : Int) : V :=
  if (!decide (V.str ph = V.str "turned")) = true then .int 0
  else if decide (V.int (j : Int) = V.int 0) = true then endB (decide (V.str g = V.str (fromEnd xs 1))) (fresh xs src || (decide (optV src = V.str (xs.getD 1 "")) && decide (V.int b = V.int 1)))
  else if decide (V.int (j : Int) = V.int ((xs.length : Int) - 1)) = true then endB (decide (V.str g = V.str (xs.getD 0 ""))) (fresh xs src || (decide (optV src = V.str (fromEnd xs 2)) && decide (V.int b = V.int 1)))
  else if (!decide (V.str g = V.str (if decide ((j : Int) ≤ (c : Int)) = true then xs.getD (j - 1) "" else xs.getD (j + 1) ""))) = true then .int 0
  else if fresh xs src = true then .int 1 else .int b
section
variable {P : Program} {w : World} {K : PySem.W.Frag} {mg : Str → Option Value} {base : Heap} {H : Hp}
def spEnd : Sp := fun vs H Q _ => ∃ o m : Bool, vs = [.bl o, .bl m] ∧ Q (endB o m) H
theorem ok_end {f : Addr} {fd : FuncData} (F : Fun K "end_bit" "end_bit" s_end_bit f fd) : FnOk P w K mg base CX0 1 f fd ["is_over_new_link", "may_cross"] spEnd := by
  refine F.ok sc_end_bit (fun vs H Q E h => ?_) (fun cdv A outer s H vs Q E hr h => ?_)
  · obtain ⟨o, m, rfl, _⟩ := h
    rfl
  · obtain ⟨o, m, rfl, q⟩ := h
    refine ⟨_, (pss_one (ps_ret (pe_ifExp (PW.pt (pw_and (pt_val (pv 0)) (pw_and1 (pt_not (pt_val (pv 1)))))) pe_non pe_int))), ?_⟩
    refine ⟨_, rfl, o, rfl, ?_⟩
    cases o with
    | false => exact iteF (iteF q)
    | true =>
      refine iteT ⟨_, rfl, m, rfl, ?_⟩
      cases m with
      | false => exact iteT q
      | true => exact iteF q
/-- a query of a relink and a host, with what more is asked -/
def spFwd (K : PySem.W.Frag) (C U : Addr) : Sp := fun vs H Q E => ∃ (v h : V) (d e : PyData) (ph g : Str) (src : Option Str) (b : Int), vs = [v, h, .str ph, optV src, .str g, .int b] ∧ Dn K H v d ∧ sml d = true ∧ Dn K H h e ∧ sml e = true ∧
  (isRel d = false → Ro E C "value" v H) ∧
  ∀ xs c, d = reld xs c → isRel d = true → (∀ j, posn xs e = some j → ∀ H', Same H H' → Q (fwd xs c j ph src g b) H') ∧ (posn xs e = none → Ro E U "host" h H)
theorem ok_fwd {f C U : Addr} {fd : FuncData} (F : Fun K "forward_bit" "forward_bit" s_forward_bit f fd) (Y : Bn mg) (G_position : Fk P w K mg base (L2.CX P w) 6 "position" ["relink", "host"] (spQh K C U fun j _ => .int (j : Int)))
    (G_end_bit : Fk P w K mg base CX0 1 "end_bit" ["is_over_new_link", "may_cross"] spEnd) : FnOk P w K mg base (L2.CX P w) 7 f fd ["relink", "host", "phase", "source", "goal", "bit"] (spFwd K C U) := by
  refine F.okX sc_forward_bit (fun vs H Q E h => ?_) (fun cdv A outer s H vs Q E hr h => ?_)
  · obtain ⟨v, h, d, e, ph, g, src, b, rfl, _⟩ := h
    rfl
  · obtain ⟨v, h, d, e, ph, g, src, b, rfl, dn, sm, dh, sh, q2, q1⟩ := h
    refine ⟨_, (pss_cons (ps_set (i := 6) sc_forward_bit.nd rfl (.inl rfl) (pe_callF G_position (hr.mono (by decide)) (by rfl) (passes_call (E := E) (takes_of rfl rfl rfl rfl) (fun _ _ _ _ h => h)) (pa_cons (pv 0) (pa_cons (pv 1) pa_nil))))
 (pss_cons (ps_if (pt_cmpR op_ne (pv 2) pe_str (nomark _))
 (pss_one (ps_ret pe_int))
 pss_nil)
 (pss_cons (ps_asg (pv 0) (pg_tup (by rfl) (pgs_cons (pg_name (i := 7) sc_forward_bit.nd rfl (Or.inl rfl)) (pgs_cons (pg_name (i := 8) sc_forward_bit.nd rfl (Or.inl rfl)) pgs_nil))))
 (pss_cons (ps_set (i := 9) sc_forward_bit.nd rfl (.inl rfl) (pe_or (pe_cmpR op_isN (pv 3) pe_non (nomark _)) (pe_one (pe_cmpR op_notIn_seq (pv 3) (pv 7) rfl))))
 (pss_cons (ps_if (pt_cmpR op_eq (pv 6) pe_int (nomark _))
 (pss_one (ps_ret (pe_callF G_end_bit (hr.mono (by decide)) (by rfl) pass0 (pa_cons (pe_cmpR op_eq (pv 4) (pe_ix ix_tup (pv 7) (pe_un un_neg pe_int) (fun _ _ => rfl)) (nomark _)) (pa_cons (pe_or (pv 9) (pe_one (pe_and (pe_cmpR op_eq (pv 3) (pe_ix ix_tup (pv 7) pe_int (fun _ _ => rfl)) (nomark _)) (pe_one (pe_cmpR op_eq (pv 5) pe_int (nomark _)))))) pa_nil)))))
 pss_nil)
 (pss_cons (ps_if (pt_cmpR op_eq (pv 6) (pe_op op_sub (pe_callB call_len_seq (by rfl) Y.len PySem.boot_len (pa_cons (pv 7) pa_nil)) pe_int) (nomark _))
 (pss_one (ps_ret (pe_callF G_end_bit (hr.mono (by decide)) (by rfl) pass0 (pa_cons (pe_cmpR op_eq (pv 4) (pe_ix ix_tup (pv 7) pe_int (fun _ _ => rfl)) (nomark _)) (pa_cons (pe_or (pv 9) (pe_one (pe_and (pe_cmpR op_eq (pv 3) (pe_ix ix_tup (pv 7) (pe_un un_neg pe_int) (fun _ _ => rfl)) (nomark _)) (pe_one (pe_cmpR op_eq (pv 5) pe_int (nomark _)))))) pa_nil)))))
 pss_nil)
 (pss_cons (ps_set (i := 10) sc_forward_bit.nd rfl (.inl rfl) (pe_ifExp (pt_cmpR op_le (pv 6) (pv 8) (nomark _)) (pe_ix ix_tup (pv 7) (pe_op op_sub (pv 6) pe_int) (fun _ _ => rfl)) (pe_ix ix_tup (pv 7) (pe_op op_add (pv 6) pe_int) (fun _ _ => rfl))))
 (pss_cons (ps_if (pt_cmpR op_ne (pv 4) (pv 10) (nomark _))
 (pss_one (ps_ret pe_int))
 pss_nil)
 (pss_one (ps_ret (pe_ifExp (pt_val (pv 9)) pe_int (pv 5)))))))))))), ?_⟩
    refine ⟨_, rfl, _, rfl, v, h, d, e, rfl, dn, sm, dh, sh, q2, fun xs c ed ir => ?_⟩
    obtain ⟨q3, q4⟩ := q1 xs c ed ir
    refine ⟨fun j hj H1 s1 => ?_, q4⟩
    obtain ⟨xs', c', ed', l3, nd, cl, ah⟩ := rel_parts ir
    obtain ⟨rfl, rfl⟩ : xs' = xs ∧ c' = c := by
      rw [ed] at ed'
      obtain ⟨e1, e2⟩ := reld_inj ed'
      exact ⟨e1.symm, e2.symm⟩
    subst ed
    obtain ⟨ra, rb, rfl, ha, hb⟩ := rel_heap dn
    have ha1 := ha.same s1
    have hb1 := hb.same s1
    have jl := posn_lt hj
    have q := q3 j hj H1 s1
    unfold fwd at q
    clear q1 q2 q3 q4
    refine ⟨_, rfl, rfl, _, rfl, ite2 (fun c1 => ?_) (fun c1 => ?_)⟩
    · rw [if_pos c1] at q
      exact q
    rw [if_neg c1] at q
    refine ⟨_, rfl, ra, _, rfl, ha1.sq, rfl, _, _, rfl, _, _, rfl, rfl, ?_⟩
    refine ⟨_, rfl, rfl, _, rfl, ?_⟩
    cases hsrc : src
    case' none =>
      refine iteT ?_
    case' some s =>
      refine iteF ?_
      refine ⟨_, rfl, _, rfl, rb, _, rfl, .inr hb1.sq, rfl, flat_strs _, ?_⟩
    all_goals
      refine ⟨_, rfl, rfl, _, rfl, ite2 (fun c2 => ?_) (fun c2 => ?_)⟩
      · rw [if_pos c2] at q
        refine ⟨_, rfl, _, rfl, 1, rfl, rb, _, -1, _, rfl, rfl, hb1.sq, at_end (by omega), rfl, ?_⟩
        refine ⟨_, rfl, _, rfl, ite2 (fun c3 => ?_) (fun c3 => ?_)⟩
        · have c3' : fresh xs' src = true := by rw [hsrc]; exact c3
          rw [c3', Bool.true_or] at q
          exact ⟨_, _, rfl, q⟩
        · have c3' : fresh xs' src = false := by rw [hsrc]; exact Bool.eq_false_iff.mpr c3
          rw [c3', Bool.false_or, hsrc] at q
          refine ⟨_, rfl, _, rfl, rb, _, 1, _, rfl, rfl, hb1.sq, at_nat (i := 1) (by omega), rfl, _, rfl, ite2 (fun c4 => ?_) (fun c4 => ?_)⟩
          · rw [c4, Bool.true_and] at q
            exact ⟨_, rfl, rfl, _, _, rfl, q⟩
          · rw [Bool.eq_false_iff.mpr c4, Bool.false_and] at q
            exact ⟨_, _, rfl, q⟩
      rw [if_neg c2] at q
      refine ⟨_, rfl, _, rfl, rb, _, rfl, .inr hb1.sq, _, _, rfl, rfl, rfl, _, rfl, ?_⟩
      rw [List.length_map]
      refine ite2 (fun c3 => ?_) (fun c3 => ?_)
      · rw [if_pos c3] at q
        refine ⟨_, rfl, _, rfl, rb, _, 0, _, rfl, rfl, hb1.sq, at_nat (i := 0) (by omega), rfl, ?_⟩
        refine ⟨_, rfl, _, rfl, ite2 (fun c3 => ?_) (fun c3 => ?_)⟩
        · have c3' : fresh xs' src = true := by rw [hsrc]; exact c3
          rw [c3', Bool.true_or] at q
          exact ⟨_, _, rfl, q⟩
        · have c3' : fresh xs' src = false := by rw [hsrc]; exact Bool.eq_false_iff.mpr c3
          rw [c3', Bool.false_or, hsrc] at q
          refine ⟨_, rfl, _, rfl, 2, rfl, rb, _, -2, _, rfl, rfl, hb1.sq, at_end2 (by omega), rfl, _, rfl, ite2 (fun c4 => ?_) (fun c4 => ?_)⟩
          · rw [c4, Bool.true_and] at q
            exact ⟨_, rfl, rfl, _, _, rfl, q⟩
          · rw [Bool.eq_false_iff.mpr c4, Bool.false_and] at q
            exact ⟨_, _, rfl, q⟩
      rw [if_neg c3] at q
      have j0 : j ≠ 0 := fun z => c2 (decide_eq_true (by rw [z]; rfl))
      have j1 : j + 1 < xs'.length := by
        have : ¬ (j : Int) = (xs'.length : Int) - 1 := fun z => c3 (decide_eq_true (by show V.int (j : Int) = V.int ((xs'.length : Int) - 1); rw [z]))
        omega
      refine ⟨_, rfl, _, rfl, _, _, rfl, rfl, _, rfl, ite2 (fun c4 => ?_) (fun c4 => ?_)⟩
      · rw [if_pos c4] at q
        refine ⟨_, rfl, _, rfl, _, _, rfl, rfl, rb, _, _, _, rfl, rfl, hb1.sq, (by rw [show (j : Int) - 1 = ((j - 1 : Nat) : Int) by omega]; exact at_nat (i := j - 1) (by omega)), ?_⟩
        refine ⟨_, rfl, _, rfl, rfl, _, rfl, ite2 (fun c5 => ?_) (fun c5 => ?_)⟩
        · rw [if_pos c5] at q
          exact q
        · rw [if_neg c5] at q
          refine ⟨_, rfl, _, rfl, ite2 (fun c6 => ?_) (fun c6 => ?_)⟩
          · have c6' : fresh xs' src = true := by rw [hsrc]; exact c6
            rw [if_pos c6'] at q
            exact q
          · have c6' : ¬ fresh xs' src = true := by rw [hsrc]; exact c6
            rw [if_neg c6'] at q
            exact ⟨_, rfl, q⟩
      · rw [if_neg c4] at q
        refine ⟨_, rfl, _, rfl, _, _, rfl, rfl, rb, _, _, _, rfl, rfl, hb1.sq, (by rw [show (j : Int) + 1 = ((j + 1 : Nat) : Int) by omega]; exact at_nat (i := j + 1) (by omega)), ?_⟩
        refine ⟨_, rfl, _, rfl, rfl, _, rfl, ite2 (fun c5 => ?_) (fun c5 => ?_)⟩
        · rw [if_pos c5] at q
          exact q
        · rw [if_neg c5] at q
          refine ⟨_, rfl, _, rfl, ite2 (fun c6 => ?_) (fun c6 => ?_)⟩
          · have c6' : fresh xs' src = true := by rw [hsrc]; exact c6
            rw [if_pos c6'] at q
            exact q
          · have c6' : ¬ fresh xs' src = true := by rw [hsrc]; exact c6
            rw [if_neg c6'] at q
            exact ⟨_, rfl, q⟩
end
end My

/-! Defs that are called with keywords. -/
namespace My
open PySem PySem.Spec PyProof.Rows L2 Gy Xl Xs Xt
/-- a def of the top: n values by position, keywords ks; gV puts them into the parameters' order -/
structure Fw (P : Program) (w : World) (K : PySem.W.Frag) (mg : Str → Option Value) (base : Heap) (CX : CXT) (k : Nat) (nm : Str) (ps : List Str) (n : Nat) (ks : List Str) (gV : List V → List V → List V) (sp : Sp) : Prop where
  ex : ∃ (f : Addr) (fd : FuncData) (g : List Value → List Value → List Value), mg nm = some (.ref f) ∧ PySem.W.keepIn K (.ref f) = true ∧ KBn K fd ps n ks g gV ∧ FnOk P w K mg base CX k f fd ps sp
section
variable {X : Cx} {CX : CXT} {k n : Nat} {ps ks : List Str} {sp : Sp} {E : XK} {x : Str} {p pos : Pos} {e : Expr} {es : List Expr} {kws : List Keyword} {t tk : TA} {gV : List V → List V → List V}
theorem pe_callNF (F : Fw X.prog X.w X.K X.mg X.base CX k x ps n ks gV sp) (hr : Room k X.A) (hg : Gl X x) (hx : Passes CX X E) (ha : PA X (e :: es) t) (hkw : PK X kws tk)
    (hall : (backToKw pos (keywordEach kws X.env)).all (·.1.isSome) = true := by rfl) (hks : (backToKw pos (keywordEach kws X.env)).filterMap (·.1) = ks := by rfl) (hdb : (x == ("__debug__" : Str)) = false := by decide)
    (he : starEach (e :: es) X.env = (false, eval e X.env) :: starEach es X.env := by rfl) (hpl : ((backTo pos (starEach (e :: es) X.env)).any (·.1) || (backToKw pos (keywordEach kws X.env)).any (·.1.isNone)) = false := by rfl) :
    PE X (.Call (.Name x p) (e :: es) kws pos) (tCallN n ks.length sp gV E t tk) := by
  obtain ⟨f, fd, g, m, kp, b, G⟩ := F.ex
  exact pe_callN G hr hg m kp b hx ha hkw hall hks hdb he hpl
/-- f(k = v, ..) -/
def tCall0 (m : Nat) (sp : Sp) (gV : List V → List V → List V) (E : XK) (tk : TA) : TE := fun σ H Q => tk σ H fun zs H2 => zs.length = m ∧ sp (gV [] zs) H2 Q E
theorem pe_call0F (F : Fw X.prog X.w X.K X.mg X.base CX k x ps 0 ks gV sp) (hr : Room k X.A) (hg : Gl X x) (hx : Passes CX X E) (hkw : PK X kws tk)
    (hall : (backToKw pos (keywordEach kws X.env)).all (·.1.isSome) = true := by rfl) (hks : (backToKw pos (keywordEach kws X.env)).filterMap (·.1) = ks := by rfl) (hdb : (x == ("__debug__" : Str)) = false := by decide)
    (hpl : ((backTo pos (starEach [] X.env)).any (·.1) || (backToKw pos (keywordEach kws X.env)).any (·.1.isNone)) = false := by rfl) :
    PE X (.Call (.Name x p) [] kws pos) (tCall0 ks.length sp gV E tk) := by
  obtain ⟨f, fd, g, m, kp, b, G⟩ := F.ex
  constructor
  intro pins s σ H Q I h
  refine wpAny_Call_Name_kw (ld_glob I hg m ?_ hdb)
  refine PySem.W.callWith_KW0 (h₀ := X.base) I.ok.mod.kin kp hall (thn (hkw.run pos pins s σ H _ I h) ?_) hpl
  rintro ws s2 ⟨zs, H2, I2, rz, l2, q2⟩
  rw [hks]
  exact ⟨I2.kIn, run_fnN (us := []) G hr b hx I2 .nil rz rfl l2 q2⟩
end
theorem vals_back : ∀ {xs : List V} {us : List Value}, Vals xs us → Vals xs.reverse us.reverse
  | _, _, .nil => .nil
  | _, _, .cons h t => by
    rw [List.reverse_cons, List.reverse_cons]
    exact (vals_back t).append (.cons h .nil)
/-- the keywords in the parameters' order, or turned about -/
theorem kbn_fwd {K : PySem.W.Frag} {x qual : Str} {st : Stmt} {f : Addr} {fd : FuncData} {ps ks : List Str} {n : Nat} (F : Fun K x qual st f fd)
    (h : ∀ (kV doc pm : Value) (an : Option Addr) (cdv ct : Value) (us ws : List Value), us.length = n → ws.length = ks.length → bindArgs (PySem.W.fnOf x qual (defArgs st) (defBody st) (defScope st) .none kV doc pm an cdv ct) ⟨us, ks.zip ws⟩ = pure (ps.zip (us ++ ws))) :
    KBn K fd ps n ks (fun us ws => us ++ ws) (fun vs zs => vs ++ zs) := by
  obtain ⟨oc, od, kV, doc, pm, an, cdv, ct, osl, rfl, lk, hcd⟩ := F.ex
  exact ⟨fun s us ws _ h1 h2 => .of_eq (h kV doc pm an cdv ct us ws h1 h2), fun r z => r.append z⟩
theorem kbn_back {K : PySem.W.Frag} {x qual : Str} {st : Stmt} {f : Addr} {fd : FuncData} {ps ks : List Str} {n : Nat} (F : Fun K x qual st f fd)
    (h : ∀ (kV doc pm : Value) (an : Option Addr) (cdv ct : Value) (us ws : List Value), us.length = n → ws.length = ks.length → bindArgs (PySem.W.fnOf x qual (defArgs st) (defBody st) (defScope st) .none kV doc pm an cdv ct) ⟨us, ks.zip ws⟩ = pure (ps.zip (us ++ ws.reverse))) :
    KBn K fd ps n ks (fun us ws => us ++ ws.reverse) (fun vs zs => vs ++ zs.reverse) := by
  obtain ⟨oc, od, kV, doc, pm, an, cdv, ct, osl, rfl, lk, hcd⟩ := F.ex
  exact ⟨fun s us ws _ h1 h2 => .of_eq (h kV doc pm an cdv ct us ws h1 h2), fun r z => r.append (vals_back z)⟩
end My

namespace My
open PySem PySem.Spec PyProof.Rows L2 Gy Xl Xs Xt
/-! ### forwards -/
/-- pairs of a text and a whole number stand at ts -/
def PrI (H : Hp) : List Addr → List (Str × Int) → Prop
  | [], [] => True
  | t :: ts, p :: ps => Tz H t [.str p.1, .int p.2] ∧ PrI H ts ps
  | _, _ => False
theorem PrI.same {H H' : Hp} (s : Same H H') : ∀ {ts : List Addr} {ps : List (Str × Int)}, PrI H ts ps → PrI H' ts ps
  | [], [], _ => trivial
  | _ :: _, _ :: _, h => ⟨h.1.same s, PrI.same s h.2⟩
theorem PrI.snoc_upd {H : Hp} {D t : Addr} {l : List V} {o : HO} {p : Str × Int} (hD : H D = some (.lst l)) (tz : Tz H t [.str p.1, .int p.2]) : ∀ {ts : List Addr} {ps : List (Str × Int)}, PrI H ts ps → PrI (upd H D o) (ts ++ [t]) (ps ++ [p])
  | [], [], _ => ⟨tz.updL hD, trivial⟩
  | _ :: _, _ :: _, h => ⟨h.1.updL hD, PrI.snoc_upd hD tz h.2⟩
theorem PrI.len {H : Hp} : ∀ {ts : List Addr} {ps : List (Str × Int)}, PrI H ts ps → ts.length = ps.length
  | [], [], _ => rfl
  | _ :: _, _ :: _, h => by rw [List.length_cons, List.length_cons, PrI.len h.2]
/-- a list of such pairs stands at L -/
def Lp (H : Hp) (L : Addr) (ps : List (Str × Int)) : Prop := ∃ ts, H L = some (.lst (ts.map V.ref)) ∧ PrI H ts ps
theorem Lp.same {H H' : Hp} {L : Addr} {ps : List (Str × Int)} (h : Lp H L ps) (s : Same H H') : Lp H' L ps := by
  obtain ⟨ts, h1, h2⟩ := h
  exact ⟨ts, s _ _ h1, h2.same s⟩
/-- the goals of a message -/
def gls (src : Option Str) (ys : List Str) : List Str := ys.filter fun y => !decide (V.str y = optV src)
/-- is not None -/
def rNotN : R2 := fun x y H Q => y = .non ∧ Q (.bl (!decide (x = .non))) H
def sentTo (f : Str → V) (g : Str) : Option (Str × Int) := match f g with
  | .int n => some (g, n)
  | _ => none
def sents (f : Str → V) (gs : List Str) : List (Str × Int) := gs.filterMap (sentTo f)
theorem fwd_opt (xs : List Str) (c j : Nat) (ph : Str) (src : Option Str) (g : Str) (b : Int) : fwd xs c j ph src g b = .non ∨ ∃ n, fwd xs c j ph src g b = .int n := by
  unfold fwd endB
  repeat' split
  all_goals first
    | exact .inl rfl
    | exact .inr ⟨_, rfl⟩
section
variable {P : Program} {w : World} {K : PySem.W.Frag} {mg : Str → Option Value} {base : Heap} {H : Hp}
def isNo : PyData → Bool
  | .none => true
  | _ => false
theorem isNo_eq {d : PyData} : isNo d = true ↔ d = .none := by
  cases d <;> simp [isNo]
theorem non_iff {v : V} {d : PyData} (h : Dn K H v d) : decide (v = .non) = isNo d := by
  cases h <;> rfl
def spForw (K : PySem.W.Frag) (C U : Addr) : Sp := fun vs H Q E => ∃ (la : Addr) (ls : List Str) (src : Option Str) (b : Int) (v h : V) (d e : PyData) (ph : Str), vs = [.ref la, optV src, .int b, v, h, .str ph] ∧ H la = some (.lst (ls.map V.str)) ∧ ls.length ≤ 20 ∧
  Dn K H v d ∧ sml d = true ∧ Dn K H h e ∧ sml e = true ∧
  (d = .none → ∀ ys H' L, ys.Perm ls → sortedS ys = true → Same H H' → H L = none → Lp H' L ((gls src ys).map fun g => (g, 0)) → Q (.ref L) H') ∧
  (d ≠ .none → isRel d = false → Ro E C "value" v H) ∧
  ∀ xs c, d = reld xs c → isRel d = true → (posn xs e = none → Ro E U "host" h H) ∧ ∀ j, posn xs e = some j → ∀ ys H' L, ys.Perm ls → sortedS ys = true → Same H H' → H L = none → Lp H' L (sents (fun g => fwd xs c j ph src g b) (gls src ys)) → Q (.ref L) H'
theorem ok_forw {f C U : Addr} {fd : FuncData} (F : Fun K "forwards" "forwards" s_forwards f fd) (Y : Bn mg) (G_position : Fk P w K mg base (L2.CX P w) 6 "position" ["relink", "host"] (spQh K C U fun j _ => .int (j : Int)))
    (G_forward_bit : Fk P w K mg base (L2.CX P w) 7 "forward_bit" ["relink", "host", "phase", "source", "goal", "bit"] (spFwd K C U)) : FnOk P w K mg base (L2.CX P w) 8 f fd ["links", "source", "bit", "relink", "host", "phase"] (spForw K C U) := by
  refine F.okX sc_forwards (fun vs H Q E h => ?_) (fun cdv A outer s H vs Q E hr h => ?_)
  · obtain ⟨la, ls, src, b, v, h, d, e, ph, rfl, _⟩ := h
    rfl
  · obtain ⟨la, ls, src, b, v, h, d, e, ph, rfl, hl, l20, dn, sm, dh, sh, q0, q1, q2⟩ := h
    refine ⟨_, (pss_cons (ps_setLc (i := 6) (own := [("goal", 8)]) (g := gName 8) (tt := tTest (tOp rNe (tVar 8) (tVar 1))) rfl sc_forwards.nd rfl rfl (sw_true rfl rfl rfl (by decide +kernel)) (pi_list (pe_callB cr_sortedS (by rfl) Y.sorted (by decide +kernel) (pa_cons (pv 0) pa_nil))) (blkOk_by (N := ["links", "source", "bit", "relink", "host", "phase", "goals", "bits", "goal", "sent"]) (sc := defScope s_forwards) (by decide +kernel)) (fun _ _ _ _ _ => (pg_name (i := 8) sc_forwards.nd rfl (Or.inl rfl))) (fun _ _ _ _ _ => (pts_one (pt_cmpR op_ne (pv 8) (pv 1) (nomark _)))) (fun _ _ _ _ _ => (pv 8)))
 (pss_cons (ps_if (pt_cmpR op_isN (pv 3) pe_non (nomark _))
 (pss_one (ps_ret (pe_lc (own := [("goal", 8)]) (g := gName 8) (tt := tYes) rfl sc_forwards.nd (pi_list (pv 6)) (blkOk_by (N := ["links", "source", "bit", "relink", "host", "phase", "goals", "bits", "goal", "sent"]) (sc := defScope s_forwards) (by decide +kernel)) (fun _ _ _ _ _ => (pg_name (i := 8) sc_forwards.nd rfl (Or.inl rfl))) (fun _ _ _ _ _ => pts_nil) (fun _ _ _ _ _ => (pe_tupZ (pa_cons (pv 8) (pa_cons pe_int pa_nil)))))))
 pss_nil)
 (pss_cons (ps_expr (pe_callF G_position (hr.mono (by decide)) (by rfl) (passes_call (E := E) (takes_of rfl rfl rfl rfl) (fun _ _ _ _ h => h)) (pa_cons (pv 3) (pa_cons (pv 4) pa_nil))))
 (pss_cons (ps_setLc (i := 7) (own := [("goal", 8)]) (g := gName 8) (tt := tYes) rfl sc_forwards.nd rfl rfl (sw_true rfl rfl rfl (by decide +kernel)) (pi_list (pv 6)) (blkOk_by (N := ["links", "source", "bit", "relink", "host", "phase", "goals", "bits", "goal", "sent"]) (sc := defScope s_forwards) (by decide +kernel)) (fun _ _ _ _ _ => (pg_name (i := 8) sc_forwards.nd rfl (Or.inl rfl))) (fun _ _ _ _ _ => pts_nil) (fun _ _ _ _ _ => (pe_callF G_forward_bit (hr.mono (by decide)) (by rfl) passN (pa_cons (pv 3) (pa_cons (pv 4) (pa_cons (pv 5) (pa_cons (pv 1) (pa_cons (pv 8) (pa_cons (pv 2) pa_nil)))))))))
 (pss_one (ps_ret (pe_lc (own := [("goal", 8), ("sent", 9)]) (g := gTup K 2 (gCons (gName 8) (gCons (gName 9) gNil))) (tt := tTest (tOp rNotN (tVar 9) (tC .non))) rfl sc_forwards.nd (pi_zip (by rfl) Y.zip (pa_cons (pv 6) (pa_cons (pv 7) pa_nil))) (blkOk_by (own := [("goal", 8), ("sent", 9)]) (N := ["links", "source", "bit", "relink", "host", "phase", "goals", "bits", "goal", "sent"]) (sc := defScope s_forwards) (by decide +kernel)) (fun _ _ _ _ _ => pg_tup (by rfl) (pgs_cons (pg_name (i := 8) sc_forwards.nd rfl (Or.inl rfl)) (pgs_cons (pg_name (i := 9) sc_forwards.nd rfl (Or.inl rfl)) pgs_nil))) (fun _ _ _ _ _ => pts_one (pt_cmpR (show OpR _ _ rNotN from op_notN) (pv 9) pe_non (nomark _))) (fun _ _ _ _ _ => pe_tupZ (pa_cons (pv 8) (pa_cons (pv 9) pa_nil)))))))))), ?_⟩
    refine ⟨_, rfl, la, ls, rfl, SqL.of hl, by omega, fun ys p perm srt np => ?_⟩
    have sp := same_upd (o := .lst (ys.map V.str)) np
    have hp : (upd H p (.lst (ys.map V.str))) p = _ := upd_same
    have yl : ys.length ≤ 20 := by rw [perm.length_eq]; exact l20
    generalize upd H p (.lst (ys.map V.str)) = H1 at sp hp ⊢
    refine ⟨p, rfl, ⟨_, SqL.of hp⟩, fun D nD => ?_⟩
    refine lc_it (walk_list (K := K) (a := p) (xs := ys.map V.str)) (fun i H' => Same H1 H' ∧ H' D = some (.lst (((ys.take i).filter (fun y => !decide (V.str y = optV src))).map V.str)))
      ⟨same_upd nD, upd_same⟩ (fun i H' _ h => SqL.of (h.1 _ _ hp)) ?_ ?_
    · rintro k y H8 H9 hk ⟨s8, hZ⟩ ⟨rfl, hy⟩
      rw [List.getElem?_map] at hy
      obtain ⟨z, hz, rfl⟩ := Option.map_eq_some_iff.mp hy
      refine ⟨rfl, ?_⟩
      refine ⟨_, rfl, _, rfl, scal_opt z src, _, rfl, ite2 (fun c8 => ?_) (fun c8 => ?_)⟩
      · refine ⟨_, rfl, _, hZ, ?_, same_upd2 s8 nD, ?_⟩
        · rw [List.length_map]
          have l1 := List.length_filter_le (fun y => !decide (V.str y = optV src)) (ys.take k)
          rw [List.length_take] at l1
          exact small200 (by omega)
        · rw [upd_same, List.take_add_one, hz, List.filter_append, List.map_append]
          show some (HO.lst _) = some (HO.lst (_ ++ (List.filter _ [z]).map V.str))
          rw [List.filter_cons_of_pos (by exact c8)]
          rfl
      · refine ⟨s8, ?_⟩
        rw [hZ, List.take_add_one, hz, List.filter_append]
        show some (HO.lst _) = some (HO.lst ((_ ++ List.filter _ [z]).map V.str))
        rw [List.filter_cons_of_neg (by exact c8), List.filter_nil, List.append_nil]
    rintro H2 ⟨s2, hZ⟩
    rw [List.length_map, List.take_of_length_le (Nat.le_refl _)] at hZ
    have hZ : H2 D = some (.lst ((gls src ys).map V.str)) := hZ
    have gl : (gls src ys).length ≤ 20 := Nat.le_trans (List.length_filter_le _ _) yl
    have s02 := sp.trans s2
    generalize hgs : gls src ys = gs at hZ gl
    refine ⟨_, rfl, rfl, _, rfl, ?_⟩
    rw [non_iff dn]
    refine ite2 (fun c1 => ?_) (fun c1 => ?_)
    · have c1' : d = .none := isNo_eq.mp c1
      refine ⟨_, rfl, D, rfl, ⟨_, SqL.of hZ⟩, fun D2 nD2 => ?_⟩
      refine lc_it (walk_list (K := K) (a := D) (xs := gs.map V.str)) (fun i H' => Same H2 H' ∧ ∃ ts : List Addr, H' D2 = some (.lst (ts.map V.ref)) ∧ ts.length = i ∧ PrI H' ts ((gs.take i).map fun g => (g, 0)))
        ⟨same_upd nD2, [], upd_same, rfl, trivial⟩ (fun i H' _ h => SqL.of (h.1 _ _ hZ)) ?_ ?_
      · rintro k y H3 H4 hk ⟨s3, ts, hD, tl, pr⟩ ⟨rfl, hy⟩
        rw [List.getElem?_map] at hy
        obtain ⟨z, hz, rfl⟩ := Option.map_eq_some_iff.mp hy
        refine ⟨rfl, ?_⟩
        dsimp only [tYes]
        refine iteT ?_
        refine ⟨_, rfl, (by show 2 ≤ sizeLine; decide), fun t o nt st tz => ?_⟩
        refine ⟨_, st _ _ hD, ?_, same_upd2 (s3.trans st) nD2, ts ++ [t], ?_, ?_, ?_⟩
        · rw [List.length_map, tl]
          rw [List.length_map] at hk
          exact small200 (by omega)
        · rw [upd_same, List.map_append]
          rfl
        · rw [List.length_append, tl]
          rfl
        · rw [List.take_add_one, hz, List.map_append]
          exact (pr.same st).snoc_upd (st _ _ hD) tz
      · rintro H3 ⟨s3, ts, hD, tl, pr⟩
        rw [List.length_map, List.take_of_length_le (Nat.le_refl _)] at pr
        exact q0 c1' ys H3 D2 perm srt (s02.trans s3) (by
          cases z : H D2 with
          | none => rfl
          | some o => rw [s02 _ _ z] at nD2; cases nD2) ⟨ts, hD, by rw [hgs]; exact pr⟩
    have c1' : d ≠ .none := fun z => c1 (isNo_eq.mpr z)
    refine ⟨_, rfl, _, rfl, v, h, d, e, rfl, dn.same s02, sm, dh.same s02, sh, fun z => (q1 c1' z).same s02, fun xs c ed ir => ?_⟩
    obtain ⟨q3, q4⟩ := q2 xs c ed ir
    refine ⟨fun j hj H3 s3 => ?_, fun z => (q3 z).same s02⟩
    have q5 := q4 j hj
    have s03 := s02.trans s3
    have dn3 := dn.same s03
    have dh3 := dh.same s03
    have hZ3 := s3 _ _ hZ
    obtain ⟨fw, hfw⟩ : ∃ fw : Str → V, fw = fun g => fwd xs c j ph src g b := ⟨_, rfl⟩
    refine ⟨_, rfl, D, rfl, ⟨_, SqL.of hZ3⟩, fun D2 nD2 => ?_⟩
    refine lc_it (walk_list (K := K) (a := D) (xs := gs.map V.str)) (fun i H' => Same H3 H' ∧ H' D2 = some (.lst ((gs.take i).map fw)))
      ⟨same_upd nD2, upd_same⟩ (fun i H' _ h => SqL.of (h.1 _ _ hZ3)) ?_ ?_
    · rintro k y H4 H5 hk ⟨s4, hB⟩ ⟨rfl, hy⟩
      rw [List.getElem?_map] at hy
      obtain ⟨z, hz, rfl⟩ := Option.map_eq_some_iff.mp hy
      refine ⟨rfl, ?_⟩
      dsimp only [tYes]
      refine iteT ?_
      refine ⟨_, rfl, _, rfl, _, rfl, _, rfl, _, rfl, _, rfl, v, h, d, e, ph, z, src, b, rfl, dn3.same s4, sm, dh3.same s4, sh, fun w => ?_, fun xs' c' ed' _ => ?_⟩
      · rw [ir] at w
        cases w
      · obtain ⟨rfl, rfl⟩ := reld_inj (ed.symm.trans ed')
        refine ⟨fun j' hj' H6 s6 => ?_, fun w => ?_⟩
        · rw [hj] at hj'
          injection hj' with hj'
          subst hj'
          refine ⟨_, s6 _ _ hB, ?_, same_upd2 (s4.trans s6) nD2, ?_⟩
          · rw [List.length_map, List.length_take]
            exact small200 (by omega)
          · rw [upd_same, List.take_add_one, hz, List.map_append, hfw]
            rfl
        · rw [hj] at w
          cases w
    rintro H4 ⟨s4, hB⟩
    rw [List.length_map, List.take_of_length_le (Nat.le_refl _)] at hB
    have s04 := s03.trans s4
    have hZ4 := s4 _ _ hZ3
    refine ⟨_, rfl, _, rfl, D, D2, _, _, rfl, SqL.of hZ4, SqL.of hB, fun D3 nD3 => ?_⟩
    refine lc_it (walk_zip (K := K) (a := D) (b := D2) (xs := gs.map V.str) (ys := gs.map fw) (n := gs.length) (by rw [List.length_map, List.length_map, Nat.min_self])) (fun i H' => Same H4 H' ∧ ∃ ts : List Addr, H' D3 = some (.lst (ts.map V.ref)) ∧ ts.length ≤ i ∧ PrI H' ts (sents fw (gs.take i)))
      ⟨same_upd nD3, [], upd_same, Nat.le_refl _, trivial⟩ (fun i H' _ h => ⟨SqL.of (h.1 _ _ hZ4), SqL.of (h.1 _ _ hB)⟩) ?_ ?_
    · rintro k y H5 H6 hk ⟨s5, ts, hD, tl, pr⟩ ⟨T, x, z, rfl, nT, rfl, e1, e2⟩
      have gk := List.getElem?_eq_getElem hk
      have e1 : (gs.map V.str)[k]? = some x := e1
      have e2 : (gs.map fw)[k]? = some z := e2
      rw [List.getElem?_map, gk] at e1 e2
      injection e1 with e1
      injection e2 with e2
      subst e1 e2
      refine ⟨T, _, rfl, SqT.of upd_same, rfl, _, _, rfl, _, _, rfl, rfl, rfl, ?_⟩
      have sT := same_upd (o := .tup [.str gs[k], fw gs[k]]) nT
      have hD6 := sT _ _ hD
      have pr6 := pr.same sT
      have s6 := s5.trans sT
      have tk : sents fw (gs.take (k + 1)) = sents fw (gs.take k) ++ (sentTo fw gs[k]).toList := by
        unfold sents
        rw [List.take_add_one, gk, List.filterMap_append]
        congr 1
      refine ⟨_, rfl, rfl, _, rfl, ?_⟩
      have fo : fw gs[k] = .non ∨ ∃ n, fw gs[k] = .int n := by rw [hfw]; exact fwd_opt ..
      rcases fo with fo | ⟨n, fo⟩
      · have w : sentTo fw gs[k] = none := by
          unfold sentTo
          rw [fo]
        refine ite2 (fun c => ?_) (fun c => ?_)
        · have c' : (!decide (fw gs[k] = .non)) = true := c
          rw [decide_eq_true fo] at c'
          cases c'
        · refine ⟨s6, ts, hD6, by omega, ?_⟩
          rw [tk, w]
          show PrI _ ts (_ ++ [])
          rw [List.append_nil]
          exact pr6
      · have w : sentTo fw gs[k] = some (gs[k], n) := by
          unfold sentTo
          rw [fo]
        refine ite2 (fun c => ?_) (fun c => ?_)
        · refine ⟨_, rfl, _, rfl, (by show 2 ≤ sizeLine; decide), fun t o nt st tz => ?_⟩
          have tz : Tz (upd (upd H5 T (.tup [.str gs[k], fw gs[k]])) t o) t [.str gs[k], .int n] := by
            rw [← fo]
            exact tz
          refine ⟨_, st _ _ hD6, ?_, same_upd2 (s6.trans st) nD3, ts ++ [t], ?_, ?_, ?_⟩
          · rw [List.length_map]
            exact small200 (by omega)
          · rw [upd_same, List.map_append]
            rfl
          · rw [List.length_append]
            exact Nat.succ_le_succ tl
          · rw [tk, w]
            exact (pr6.same st).snoc_upd (st _ _ hD6) tz
        · have c' : ¬ (!decide (fw gs[k] = .non)) = true := c
          rw [fo] at c'
          exact absurd (by simp) c'
    · rintro H5 ⟨s5, ts, hD, tl, pr⟩
      rw [List.take_of_length_le (Nat.le_refl _)] at pr
      refine q5 ys H5 D3 perm srt (s04.trans s5) (by
          cases z : H D3 with
          | none => rfl
          | some o => rw [s04 _ _ z] at nD3; cases nD3) ⟨ts, hD, ?_⟩
      rw [hgs, ← hfw]
      exact pr
end
end My

namespace My
open PySem PySem.Spec PyProof.Rows L2
/-! ### a list of texts has one sorted arrangement -/
def leS (a b : Str) : Prop := a.cps.toList ≤ b.cps.toList
theorem leS_of {a b : Str} (h : ltCps b.cps.toList a.cps.toList = false) : leS a b := by
  rw [ltCps_eq] at h
  exact List.not_lt.mp (of_decide_eq_false h)
theorem rise_all : ∀ {r : List Str} {p : Str}, risingS p r = true → (∀ x ∈ r, leS p x) ∧ r.Pairwise leS
  | [], _, _ => ⟨fun _ z => (nomatch z), List.Pairwise.nil⟩
  | x :: r, p, h => by
    have h2 : (!ltCps x.cps.toList p.cps.toList) = true ∧ risingS x r = true := by simpa only [risingS, Bool.and_eq_true] using h
    obtain ⟨a, b⟩ := rise_all h2.2
    have px : leS p x := leS_of (by simpa using h2.1)
    refine ⟨fun y hy => ?_, List.Pairwise.cons a b⟩
    rcases List.mem_cons.mp hy with rfl | hy
    · exact px
    · exact List.le_trans px (a y hy)
theorem sorted_pw {ys : List Str} (h : sortedS ys = true) : ys.Pairwise leS := by
  cases ys with
  | nil => exact List.Pairwise.nil
  | cons x r =>
    obtain ⟨a, b⟩ := rise_all (show risingS x r = true from h)
    exact List.Pairwise.cons a b
theorem leS_anti {a b : Str} (h1 : leS a b) (h2 : leS b a) : a = b := by
  have e := List.le_antisymm h1 h2
  cases a with
  | mk ca =>
    cases b with
    | mk cb =>
      have e' : ca.toList = cb.toList := e
      rw [Array.toList_inj.mp e']
theorem sort_one : ∀ {ys zs : List Str}, ys.Perm zs → ys.Pairwise leS → zs.Pairwise leS → ys = zs
  | [], zs, p, _, _ => (List.Perm.eq_nil p.symm).symm
  | y :: ys, [], p, _, _ => absurd (List.Perm.eq_nil p) (by simp)
  | y :: ys, z :: zs, p, h1, h2 => by
    have e : y = z := by
      have m1 : y ∈ z :: zs := p.mem_iff.mp List.mem_cons_self
      have m2 : z ∈ y :: ys := p.mem_iff.mpr List.mem_cons_self
      rcases List.mem_cons.mp m1 with e | m1
      · exact e
      · rcases List.mem_cons.mp m2 with e | m2
        · exact e.symm
        · exact leS_anti ((List.pairwise_cons.mp h1).1 z m2) ((List.pairwise_cons.mp h2).1 y m1)
    subst e
    rw [sort_one (List.perm_cons y |>.mp p) (List.pairwise_cons.mp h1).2 (List.pairwise_cons.mp h2).2]
theorem sort_uniq {ys zs ls : List Str} (p1 : ys.Perm ls) (s1 : sortedS ys = true) (p2 : zs.Perm ls) (s2 : sortedS zs = true) : ys = zs := sort_one (p1.trans p2.symm) (sorted_pw s1) (sorted_pw s2)
end My

/-! An own exception of two fields raised; a call of what a subscript gives. -/
namespace Xl
open PySem PySem.Spec PyProof.Rows L2 Gy
def spI2 (C : Addr) (f1 f2 : Str) : Sp := fun vs H Q _ => ∃ (a : Addr) (v1 v2 : V), vs = [.ref a, v1, v2] ∧ H a = some (exo a C none) ∧
  ∀ dx, H dx = none → dx ≠ a → Q .non (upd (upd (upd H dx (exd dx [(f1, v1)])) a (exo a C (some dx))) dx (exd dx [(f2, v2), (f1, v1)]))
theorem del_made2 {H : Hp} {a dx C : Addr} {f1 f2 : Str} {v1 v2 : V} (n : H a = none) (ne : dx ≠ a) :
    upd (del (upd (upd (upd (upd H a (exo a C none)) dx (exd dx [(f1, v1)])) a (exo a C (some dx))) dx (exd dx [(f2, v2), (f1, v1)])) a) dx (.xd [(f2, v2), (f1, v1)]) = upd H dx (.xd [(f2, v2), (f1, v1)]) := by
  funext b
  by_cases h1 : b = dx
  · rw [h1, upd_same, upd_same]
  · rw [upd_ne h1, upd_ne h1]
    by_cases h2 : b = a
    · rw [h2, del_same, n]
    · rw [del_ne h2, upd_ne h1, upd_ne h2, upd_ne h1, upd_ne h2]
section
variable {X : Cx} {C fI : Addr} {fd : FuncData} {f1 f2 x : Str} {e e2 : Expr} {p pos : Pos}
/-- C(e, e2), to be raised -/
def tMk2 (C : Addr) (f1 f2 : Str) (t : TA) : L2.St → Hp → XK → Prop := fun σ H Q => t σ H fun vs H1 => ∃ v1 v2, vs = [v1, v2] ∧ ∀ d, H1 d = none → Q (.ref C) (some d) (upd H1 d (.xd [(f2, v2), (f1, v1)]))
theorem pmk_x2 {t : TA} (T : XIn X.K C fI) (ty : PySem.W.typeIn X.K (.ref C) = some (.type "type")) (F : FnOk X.prog X.w X.K X.mg X.base CX0 1 fI fd ["self", f1, f2] (spI2 C f1 f2)) (hr : Room 2 X.A)
    (hb : XB X.K fd ["self", f1, f2] [] (fun us _ => us) (fun vs _ => vs)) (hg : Gl X x) (hm : X.mg x = some (.ref C)) (ha : PA X [e, e2] t)
    (hdb : (x == ("__debug__" : Str)) = false := by decide) (hst : starEach [e, e2] X.env = (false, eval e X.env) :: starEach [e2] X.env := by rfl) (hpl : (backTo pos (starEach [e2] X.env)).any (·.1) = false := by rfl) :
    PMk X (.Call (.Name x p) [e, e2] [] pos) (tMk2 C f1 f2 t) := by
  intro pins s σ H Q I h
  refine wpAny_Call_Name_kw (ld_glob I hg hm ?_ hdb)
  refine PySem.W.callWith_K (h₀ := X.base) I.ok.mod.kin T.kp (thn (ha.run pos pins s σ H _ I h) ?_) hst hpl
  rintro us s1 ⟨vs, H1, I1, r1, v1, v2, rfl, q1⟩
  refine ⟨I1.kIn, ?_⟩
  show wpAny _ _ (call (.ref C) us) _ _ _
  obtain ⟨B, nI, iI, bmB, BF, _, ii, _⟩ := T.base
  obtain ⟨nm, N', qn, bs, bm, hdct, sn, sub, ab, col, dd, k0, k1, k2, k3, k5, cl, hT⟩ := PySem.W.excInit_of I1.kIn ii
  obtain ⟨hp, g', dr, tk', os⟩ := s1
  have big : hp.objs.size ≤ hp.objs.size + 1 := Nat.le_succ _
  have na : H1 (hp.objs.size + 1) = none := I1.hok.fresh big
  have keep : ∀ b o, hp.get? b = some o → ((hp.push (PySem.W.kdv_tup us)).push (PySem.PX.excO C hp.objs.size)).get? b = some o := fun b o e =>
    Heap.get?_push_of_some _ (Heap.get?_push_of_some _ e)
  have new : ((hp.push (PySem.W.kdv_tup us)).push (PySem.PX.excO C hp.objs.size)).get? (hp.objs.size + 1) = some (PySem.PX.excO C hp.objs.size) := by heap_get
  have I2 := I1.laid (t' := tk') (a := hp.objs.size + 1) (o := exo (hp.objs.size + 1) C none) keep big (exo_ok new)
  have r2 : Vals [V.ref (hp.objs.size + 1), v1, v2] (Value.ref (hp.objs.size + 1) :: us) := .cons rfl r1
  have hq : spI2 C f1 f2 [V.ref (hp.objs.size + 1), v1, v2] (upd H1 (hp.objs.size + 1) (exo (hp.objs.size + 1) C none))
      (fun r H2 => r = .non ∧ ∃ dx, dx ≠ hp.objs.size + 1 ∧ upd H1 (hp.objs.size + 1) (exo (hp.objs.size + 1) C none) dx = none ∧
        H2 = upd (upd (upd (upd H1 (hp.objs.size + 1) (exo (hp.objs.size + 1) C none)) dx (exd dx [(f1, v1)])) (hp.objs.size + 1) (exo (hp.objs.size + 1) C (some dx))) dx (exd dx [(f2, v2), (f1, v1)])) (fun _ _ _ => False) :=
    ⟨_, v1, v2, rfl, upd_same, fun dx nd ne => ⟨rfl, dx, ne, nd, rfl⟩⟩
  have bl := hb.to ⟨_, g', dr, tk', os⟩ (Value.ref (hp.objs.size + 1)) us [] I2.kIn (by rw [← r2.length]; rfl)
  refine wpAny_call (PySem.Xg.kw_call BF hT cl (PySem.W.looks_findIn I1.kIn T.ini) (fun self => PySem.W.bind_fn I1.kIn self T.tf) ?_ (codeAny_mono (F.run _ X.stack _ _ _ _ _ _ _ (hr.make C us []) (I2.env0.make C us []) bl r2 hq) ?_))
  · rw [← r1.length, sizeLine_eq]
    show 2 ≤ 16777216
    decide
  · rintro (er | (_ | _ | _ | u)) s' z
    · exact (show False from z).elim
    · exact z.elim
    · exact z.elim
    · exact z.elim
    · obtain ⟨r, H2, os2, bare2, un2, hok2, rv, er, dx, ne, nd, e2⟩ := z
      subst er
      obtain ⟨h2, g2, d2, t2, os'⟩ := s'
      subst e2
      refine ⟨rv, mk_end (raises_own T.ex ty) I1 big keep un2 hok2 os2 bare2 ((upd_ne ne.symm).trans upd_same) upd_same ((upd_ne ne).symm.trans nd) ?_⟩
      rw [del_made2 na ne]
      exact q1 dx ((upd_ne ne).symm.trans nd)
/-- raise C(e, e2) -/
theorem ps_raise2 {W : WX} {t : TA} {rp : Pos} (hc : X.calm = true) (tk : Takes X W) (T : XIn X.K C fI) (ty : PySem.W.typeIn X.K (.ref C) = some (.type "type")) (F : FnOk X.prog X.w X.K X.mg X.base CX0 1 fI fd ["self", f1, f2] (spI2 C f1 f2)) (hr : Room 2 X.A)
    (hb : XB X.K fd ["self", f1, f2] [] (fun us _ => us) (fun vs _ => vs)) (hg : Gl X x) (hm : X.mg x = some (.ref C)) (ha : PA X [e, e2] t)
    (hdb : (x == ("__debug__" : Str)) = false := by decide) (hst : starEach [e, e2] X.env = (false, eval e X.env) :: starEach [e2] X.env := by rfl) (hpl : (backTo pos (starEach [e2] X.env)).any (·.1) = false := by rfl) :
    PS X (.Raise (some (.Call (.Name x p) [e, e2] [] pos)) none rp) (fun _ σ H => tMk2 C f1 f2 t σ H fun cls d H' => W cls d σ H') :=
  ps_raise hc tk (pmk_x2 T ty F hr hb hg hm ha hdb hst hpl)
end
end Xl
namespace My
open PySem PySem.Spec PyProof.Rows L2 Gy Xl Xs Xt
/-- a class of errors with two fields: raised -/
structure Rz2 (P : Program) (w : World) (K : PySem.W.Frag) (mg : Str → Option Value) (base : Heap) (nm f1 f2 : Str) (C : Addr) : Prop where
  gm : mg nm = some (.ref C)
  ty : PySem.W.typeIn K (.ref C) = some (.type "type")
  ex : ∃ (fI : Addr) (fd : FuncData), XIn K C fI ∧ FnOk P w K mg base CX0 1 fI fd ["self", f1, f2] (spI2 C f1 f2) ∧ XB K fd ["self", f1, f2] [] (fun us _ => us) (fun vs _ => vs)
/-- what is wanted where C(v1, v2) is raised -/
def Ro2 (E : XK) (C : Addr) (f1 f2 : Str) (v1 v2 : V) (H : Hp) : Prop := ∀ H' dx, Same H H' → H' dx = some (.xd [(f2, v2), (f1, v1)]) → E (.ref C) (some dx) H'
theorem Ro2.same {E : XK} {C : Addr} {f1 f2 : Str} {v1 v2 : V} {H H1 : Hp} (h : Ro2 E C f1 f2 v1 v2 H) (s : Same H H1) : Ro2 E C f1 f2 v1 v2 H1 := fun H' dx s1 e => h H' dx (s.trans s1) e
/-- xs[i](e, ..): one of several defs -/
def tCallIx (S : Addr → Option Sp) (tf : TE) (t : TA) : TE := fun σ H Q => tf σ H fun v H1 => ∃ f sp, v = .ref f ∧ S f = some sp ∧ t σ H1 fun vs H2 => sp vs H2 Q (fun _ _ _ => False)
theorem pe_callIx {X : Cx} {k : Nat} {S : Addr → Option Sp} {a b e : Expr} {es : List Expr} {tf : TE} {t : TA} {p pos : Pos} (A : ∀ f sp, S f = some sp → Held X.prog X.w X.K X.mg X.base k f sp) (hr : Room k X.A) (hf : PE X (.Subscript a b p) tf) (ha : PA X (e :: es) t)
    (he : starEach (e :: es) X.env = (false, eval e X.env) :: starEach es X.env := by rfl) (hpl : (backTo pos (starEach es X.env)).any (·.1) = false := by rfl) : PE X (.Call (.Subscript a b p) (e :: es) [] pos) (tCallIx S tf t) := by
  refine ⟨fun pins s σ H Q I h => ?_⟩
  rw [show eval (.Call (.Subscript a b p) (e :: es) [] pos) X.env = (do callWith pos (← eval (.Subscript a b p) X.env) [] (backTo pos (starEach (e :: es) X.env)) (backToKw pos (keywordEach [] X.env))) from rfl]
  refine wpAny_bind (thn (hf.run pins s σ H _ I h) fun u s1 ⟨v, H1, I1, r1, f, sp, ev, hS, q1⟩ => ?_)
  subst ev
  cases r1
  obtain ⟨fd, ps, F, hk, hb⟩ := (A f sp hS).ex
  refine PySem.W.callWith_K (h₀ := X.base) I.ok.mod.kin hk (thn (ha.run pos pins s1 σ _ _ I1 q1) fun us s2 ⟨vs, H2, I2, r, q⟩ => ⟨I2.kIn, ?_⟩) he hpl
  have q' : sp (vs ++ []) H2 Q (fun _ _ _ => False) := by
    rw [List.append_nil]
    exact q
  exact run_fn F hr hb .nil (fun _ _ _ _ _ _ _ z => z.elim) I2 r q'
theorem Held.of {P : Program} {w : World} {K : PySem.W.Frag} {mg : Str → Option Value} {base : Heap} {k j : Nat} {f : Addr} {nm : Str} {ps : List Str} {sp : Sp} (F : Fk P w K mg base CX0 j nm ps sp) (h : j ≤ k) (m : mg nm = some (.ref f)) : Held P w K mg base k f sp := by
  obtain ⟨g, fd, m', kp, b, G⟩ := F.ex
  rw [m] at m'
  cases m'
  exact ⟨fd, ps, G.mono h, kp, b⟩
/-- f(e, ..) in a try -/
theorem pe_callSF {X : Cx} {CX : CXT} {k : Nat} {ps : List Str} {sp : Sp} {E : L2.St → XK} {x : Str} {p pos : Pos} {e : Expr} {es : List Expr} {t : TA} (F : Fk X.prog X.w X.K X.mg X.base CX k x ps sp) (hr : Room k X.A) (hg : Gl X x) (hx : ∀ σ, PassesAt CX X σ (E σ)) (ha : PA X (e :: es) t)
    (hdb : (x == ("__debug__" : Str)) = false := by decide) (he : starEach (e :: es) X.env = (false, eval e X.env) :: starEach es X.env := by rfl)
    (hpl : (backTo pos (starEach es X.env)).any (·.1) = false := by rfl) : PE X (.Call (.Name x p) (e :: es) [] pos) (tCallSD sp [] E t) := by
  obtain ⟨f, fd, m, kp, b, G⟩ := F.ex
  exact pe_callSD G hr hg m kp b .nil hx ha hdb he hpl
/-- what is known of a class of errors that is caught -/
structure Xc (K : PySem.W.Frag) (C R : Addr) : Prop where
  x : XCl K C
  em : PySem.W.exmOne K (.ref C) (.ref C) = some true
  ki : PySem.W.kitOne K (.ref C) (.ref R) = some true
theorem Xc.xf {K : PySem.W.Frag} {C R : Addr} (h : Xc K C R) : XfC K C := ⟨h.x.ga, h.x.gg, h.x.ex, h.x.hd⟩
/-- the class of an object, as the built-in isinstance asks for it -/
structure Cg (K : PySem.W.Frag) : Prop where
  cg : PySem.W.specialIn K (.builtin "object.__class__") "__get__" = some (some (.builtin "getset_descriptor.__get__"))
  ct : PySem.W.takesIn K (.builtin "object.__class__") = some true
end My

/-! v == text, for any value of data. -/
namespace Gy
open PySem PySem.Spec PyProof.Rows L2 Xt
theorem dict_no_str (l : Addr) (es : Array DictEntry) (ep : Nat) (dd : Option Addr) (sl : Array (Option Value)) (b : Str) (u : Tok) :
    Meets (Builtin.«dict.__eq__» ⟨[.ref l, .str b u], []⟩) (fun _ R s => s.heap.get? l = some ⟨.type "dict", dd, .dict es ep, sl⟩ ∧ R (.ok (.ret .notImplemented)) s) := by
  refine .of_wp fun prog w A R s h => ?_
  obtain ⟨hp, g, d, tk, os⟩ := s
  obtain ⟨hl, h⟩ := h
  have f1 : isSubtype (.type "str") (.type "dict") = pure false := by rw [isSubtype_type]; kernel_rfl
  wp_walk using wpAny_loadPart' hl, wpAny_load hl
  exact ⟨_, rfl, h⟩
theorem str_no_dict (l : Addr) (es : Array DictEntry) (ep : Nat) (dd : Option Addr) (sl : Array (Option Value)) (b : Str) (u : Tok) :
    Meets (Builtin.«str.__eq__» ⟨[.str b u, .ref l], []⟩) (fun _ R s => s.heap.get? l = some ⟨.type "dict", dd, .dict es ep, sl⟩ ∧ R (.ok (.ret .notImplemented)) s) := by
  refine .of_wp fun prog w A R s h => ?_
  obtain ⟨hp, g, d, tk, os⟩ := s
  obtain ⟨hl, h⟩ := h
  wp_walk using wpAny_loadPart' hl, wpAny_load hl
  exact ⟨_, rfl, h⟩
theorem rc_dict_str {A : Around} {s : Shared} {l : Addr} {o : Obj} {es : Array DictEntry} {ep : Nat} (b : Str) (u : Tok) (ho : s.heap.get? l = some o) (hc : o.cls = .type "dict") (hd : o.data = .dict es ep) (hu : A.units < cLine)
    {prog : Program} {w : World} {E Q : Value → Shared → Prop} (h : Q (.bool false) s) : wpAny (model prog w) A (richCompare .Eq (.ref l) (.str b u)) Q E s := by
  obtain ⟨cls, dd, dat, sl⟩ := o
  dsimp only at hc hd
  subst hc hd
  refine SeqAt.rc_eq_decline_or (k := false) ⟨_, ho, rfl⟩ (typeIs_str s b u) (by decide) F.sub_str_dict F.slot_dict_eq F.slot_str_eq_refl ?_ ?_ ?_ (.inr hu) h
  · exact fun _ q => call_meets F.slot_dict_eq ⟨_, ho, rfl⟩ F.entry_dict_eq (F.args_dict_eq_2 _ _) (dict_no_str l es ep dd sl b u) ⟨ho, q⟩
  · exact fun _ q => call_meets F.slot_str_eq_refl (typeIs_str s b u) F.entry_str_eq (F.args_str_eq_2 _ _) (str_no_dict l es ep dd sl b u) ⟨ho, q⟩
  · exact fun _ q => wpAny_of_eq (rfl : isSame (.ref l) (.str b u) = pure false) q
/-- whether it is this text -/
def isTx (x : Str) : PyData → Bool
  | .str y => decide (V.str y = V.str x)
  | _ => false
def rEqS (K : PySem.W.Frag) : R2 := fun a b H Q => ∃ (d : PyData) (x : Str), b = .str x ∧ Dn K H a d ∧ Q (.bl (isTx x d)) H
theorem op_eqS {X : Cx} (hu : X.A.units < cLine) : OpR X (compareOp .Eq) (rEqS X.K) := by
  intro pins s σ H a b v u Q I rx ry h
  obtain ⟨d, x, rfl, dn, q⟩ := h
  cases dn with
  | non => exact op_eq pins s σ H _ _ v u Q I rx ry ⟨rfl, q⟩
  | bl c => exact op_eq pins s σ H _ _ v u Q I rx ry ⟨rfl, q⟩
  | int i => exact op_eq pins s σ H _ _ v u Q I rx ry ⟨rfl, q⟩
  | str y => exact op_eq pins s σ H _ _ v u Q I rx ry ⟨rfl, q⟩
  | lst h1 _ =>
    cases rx
    obtain ⟨t, rfl⟩ := ry
    obtain ⟨its, _, hl, _⟩ := I.list (SqL.of h1)
    exact SeqAt.RcAt.list_str x t hl.isList hu _ _ _ _ ⟨.bl false, H, I, rfl, q⟩
  | tup h1 _ =>
    cases rx
    obtain ⟨t, rfl⟩ := ry
    obtain ⟨its, _, ht, _⟩ := I.tuple h1.sq
    exact SeqAt.RcAt.tuple_str x t ht hu _ _ _ _ ⟨.bl false, H, I, rfl, q⟩
  | dic h1 =>
    cases rx
    obtain ⟨t, rfl⟩ := ry
    obtain ⟨_, o, es, ep, g1, g2, g3, _, _⟩ := dict_at I h1
    exact rc_dict_str x t g1 g2 g3 hu ⟨.bl false, H, I, rfl, q⟩
  | dic1 h1 =>
    cases rx
    obtain ⟨t, rfl⟩ := ry
    obtain ⟨_, o, es, ep, _, _, _, g1, g2, g3, _, _, _, _⟩ := dict_at1 I h1
    exact rc_dict_str x t g1 g2 g3 hu ⟨.bl false, H, I, rfl, q⟩
end Gy

/-! v not in a tuple of texts, for any value of data. -/
namespace Gy
open PySem PySem.Spec PyProof.Rows L2 Xt
theorem rc_str_dict {A : Around} {s : Shared} {l : Addr} {o : Obj} {es : Array DictEntry} {ep : Nat} (b : Str) (u : Tok) (ho : s.heap.get? l = some o) (hc : o.cls = .type "dict") (hd : o.data = .dict es ep) (hu : A.units < cLine)
    {prog : Program} {w : World} {E Q : Value → Shared → Prop} (h : Q (.bool false) s) : wpAny (model prog w) A (richCompare .Eq (.str b u) (.ref l)) Q E s := by
  obtain ⟨cls, dd, dat, sl⟩ := o
  dsimp only at hc hd
  subst hc hd
  refine SeqAt.rc_eq_decline_or (k := false) (typeIs_str s b u) ⟨_, ho, rfl⟩ (by decide) F.sub_dict_str F.slot_str_eq F.slot_dict_eq_refl ?_ ?_ ?_ (.inr hu) h
  · exact fun _ q => call_meets F.slot_str_eq (typeIs_str s b u) F.entry_str_eq (F.args_str_eq_2 _ _) (str_no_dict l es ep dd sl b u) ⟨ho, q⟩
  · exact fun _ q => call_meets F.slot_dict_eq_refl ⟨_, ho, rfl⟩ F.entry_dict_eq (F.args_dict_eq_2 _ _) (dict_no_str l es ep dd sl b u) ⟨ho, q⟩
  · exact fun _ q => wpAny_of_eq (rfl : isSame (.str b u) (.ref l) = pure false) q
theorem eq_str_dict {A : Around} {s : Shared} {l : Addr} {o : Obj} {es : Array DictEntry} {ep : Nat} (b : Str) (u : Tok) (ho : s.heap.get? l = some o) (hc : o.cls = .type "dict") (hd : o.data = .dict es ep) (hu : A.units < cLine) : SeqAt.EqAt A s (.str b u) (.ref l) false := fun prog w E Q h => by
  unfold eqBool
  refine wpAny_holding ?_
  refine wpAny_ite_split (fun hab => absurd (eq_of_beq hab) nofun) (fun _ => ?_)
  exact wpAny_bind (rc_str_dict b u ho hc hd hu (wpAny_truthy_bool h))
/-- whether it is one of these texts -/
def memD (xs : List Str) : PyData → Bool
  | .str x => inV (.str x) (xs.map V.str)
  | _ => false
def rNotInT (K : PySem.W.Frag) : R2 := fun a b H Q => ∃ (p : Addr) (d : PyData) (xs : List Str), b = .ref p ∧ SqT K H p (xs.map V.str) ∧ Dn K H a d ∧ Q (.bl (!memD xs d)) H
theorem strs_of : ∀ {xs : List Str} {us : List Value}, Vals (xs.map V.str) us → ∀ u ∈ us, ∃ a t, u = .str a t
  | [], _, .nil => fun u hu => by cases hu
  | x :: xs, _, .cons r t => fun u hu => by
    obtain ⟨tk, rfl⟩ := r
    rcases List.mem_cons.mp hu with rfl | hu
    · exact ⟨_, _, rfl⟩
    · exact strs_of t u hu
theorem flats (xs : List Str) : (xs.map V.str).all flatV = true := by
  induction xs with
  | nil => rfl
  | cons x xs ih => rw [List.map_cons, List.all_cons, ih]; rfl
theorem inV_no {v : V} (h : ∀ x, eqV (.str x) v = false) (xs : List Str) : inV v (xs.map V.str) = false := by
  unfold inV
  rw [List.any_map, List.any_eq_false]
  intro x _
  show ¬ eqV (.str x) v = true
  rw [h]
  exact Bool.false_ne_true
theorem op_notInT {X : Cx} (hu : X.A.units + 64 < cLine) : OpR X (compareOp .NotIn) (rNotInT X.K) := by
  intro pins s σ H a b v u Q I rx ry h
  obtain ⟨p, d, xs, rfl, hs, dn, q⟩ := h
  have hu1 : X.A.in1.units < cLine := by
    have : X.A.in1.units = X.A.units + 1 := rfl
    omega
  have go : (∀ (b : Str) (t : Tok), SeqAt.EqAt X.A.in1 s (.str b t) v false) → (Q (.bl true) H) → wpAny (model X.prog X.w) X.A (compareOp .NotIn v u) (EP X pins σ Q) X.xe s := fun he q => by
    cases ry
    obtain ⟨its, r, pl, hz⟩ := I.tuple hs
    refine SeqAt.notIn_tupleAt (fun _ => false) pl (fun w hw => ?_) ⟨.bl true, H, I, ?_, q⟩
    · obtain ⟨b, t, rfl⟩ := strs_of r w (by simpa using hw)
      exact he b t
    · have : (its.toArray.any fun _ => false) = false := by simp
      rw [this]
      rfl
  have fl : flatV a = true → Q (.bl (!inV a (xs.map V.str))) H → _ := fun fx q => op_notIn_seq pins s σ H a (.ref p) v u Q I rx ry ⟨p, _, rfl, .inr hs, fx, flats xs, q⟩
  cases dn with
  | non => exact fl rfl (by rw [inV_no (fun _ => rfl)]; exact q)
  | bl c => exact fl rfl (by rw [inV_no (fun _ => rfl)]; exact q)
  | int i => exact fl rfl (by rw [inV_no (fun _ => rfl)]; exact q)
  | str y => exact fl rfl q
  | lst h1 _ =>
    cases rx
    obtain ⟨its, _, hl, _⟩ := I.list (SqL.of h1)
    exact go (fun b t => SeqAt.EqAt.str_list b t hl.isList hu1) q
  | tup h1 _ =>
    cases rx
    obtain ⟨its, _, ht, _⟩ := I.tuple h1.sq
    exact go (fun b t => SeqAt.EqAt.str_tuple b t ht hu1) q
  | dic h1 =>
    cases rx
    obtain ⟨_, o, es, ep, g1, g2, g3, _, _⟩ := dict_at I h1
    exact go (fun b t => eq_str_dict b t g1 g2 g3 hu1) q
  | dic1 h1 =>
    cases rx
    obtain ⟨_, o, es, ep, _, _, _, g1, g2, g3, _, _, _, _⟩ := dict_at1 I h1
    exact go (fun b t => eq_str_dict b t g1 g2 g3 hu1) q
def rNotInL (K : PySem.W.Frag) : R2 := fun a b H Q => ∃ (p : Addr) (d : PyData) (xs : List Str), b = .ref p ∧ SqL K H p (xs.map V.str) ∧ Dn K H a d ∧ Q (.bl (!memD xs d)) H
/-- whether any value is none of the texts of a list -/
theorem op_notInL {X : Cx} (hu : X.A.units + 64 < cLine) : OpR X (compareOp .NotIn) (rNotInL X.K) := by
  intro pins s σ H a b v u Q I rx ry h
  obtain ⟨p, d, xs, rfl, hs, dn, q⟩ := h
  have hu1 : X.A.in1.units < cLine := by
    have : X.A.in1.units = X.A.units + 1 := rfl
    omega
  have go : (∀ (b : Str) (t : Tok), SeqAt.EqAt X.A.in1 s (.str b t) v false) → (Q (.bl true) H) → wpAny (model X.prog X.w) X.A (compareOp .NotIn v u) (EP X pins σ Q) X.xe s := fun he q => by
    cases ry
    obtain ⟨its, r, pl, hz⟩ := I.list hs
    refine SeqAt.notIn_listAt (fun _ => false) pl.isList (fun w hw => ?_) ⟨.bl true, H, I, ?_, q⟩
    · obtain ⟨b, t, rfl⟩ := strs_of r w (by simpa using hw)
      exact he b t
    · have : (its.toArray.any fun _ => false) = false := by simp
      rw [this]
      rfl
  have fl : flatV a = true → Q (.bl (!inV a (xs.map V.str))) H → _ := fun fx q => op_notIn_seq pins s σ H a (.ref p) v u Q I rx ry ⟨p, _, rfl, .inl hs, fx, flats xs, q⟩
  cases dn with
  | non => exact fl rfl (by rw [inV_no (fun _ => rfl)]; exact q)
  | bl c => exact fl rfl (by rw [inV_no (fun _ => rfl)]; exact q)
  | int i => exact fl rfl (by rw [inV_no (fun _ => rfl)]; exact q)
  | str y => exact fl rfl q
  | lst h1 _ =>
    cases rx
    obtain ⟨its, _, hl, _⟩ := I.list (SqL.of h1)
    exact go (fun b t => SeqAt.EqAt.str_list b t hl.isList hu1) q
  | tup h1 _ =>
    cases rx
    obtain ⟨its, _, ht, _⟩ := I.tuple h1.sq
    exact go (fun b t => SeqAt.EqAt.str_tuple b t ht hu1) q
  | dic h1 =>
    cases rx
    obtain ⟨_, o, es, ep, g1, g2, g3, _, _⟩ := dict_at I h1
    exact go (fun b t => eq_str_dict b t g1 g2 g3 hu1) q
  | dic1 h1 =>
    cases rx
    obtain ⟨_, o, es, ep, _, _, _, g1, g2, g3, _, _, _, _⟩ := dict_at1 I h1
    exact go (fun b t => eq_str_dict b t g1 g2 g3 hu1) q
end Gy

namespace My
open PySem PySem.Spec PyProof.Rows L2 Gy Xl Xs Xt Xo Xp
section
variable {P : Program} {w : World} {K : PySem.W.Frag} {mg : Str → Option Value} {base : Heap} {H : Hp} {C CB CL CT CN : Addr}
structure Fm (P : Program) (w : World) (K : PySem.W.Frag) (mg : Str → Option Value) (base : Heap) (CX : CXT) (k : Nat) (C : Addr) (nm : Str) (ps : List Str) (sp : Sp) : Prop where
  ex : ∃ (f : Addr) (fd : FuncData), Meth K C nm f ∧ Binds K fd ps [] ∧ FnOk P w K mg base CX k f fd ps sp
theorem same_no {H H' : Hp} {a : Addr} (s : Same H H') (n : H' a = none) : H a = none := by
  cases z : H a with
  | none => rfl
  | some o => rw [s _ _ z] at n; cases n
/-- what is told as it is -/
def spGet (K : PySem.W.Frag) (C : Addr) (v : HS → HA → V) : Sp := fun vs H Q _ => ∃ (h : Addr) (st : HS) (ad : HA), vs = [.ref h] ∧ Hst K C H h st ad ∧ Q (v st ad) H
/-- a copy of one of its lists -/
def spLst (K : PySem.W.Frag) (C : Addr) (l : HS → List PyData) : Sp := fun vs H Q _ => ∃ (h : Addr) (st : HS) (ad : HA), vs = [.ref h] ∧ Hst K C H h st ad ∧ ∀ H' L us, Same H H' → H L = none → H' L = some (.lst us) → Dns K (fz H') us (l st) → Q (.ref L) H'
theorem dns_strs' {K : PySem.W.Frag} {H : Hp} (xs : List Str) : Dns K H (xs.map V.str) (xs.map PyData.str) := dns_strs xs
theorem ok_name_ {f : Addr} {fd : FuncData} (F : Fun K "name" "Host.name" m_name f fd) (T : Ch K C) : FnOk P w K mg base CX0 1 f fd ["self"] (spGet K C fun st _ => .str st.nm) := by
  refine F.ok scm_name (fun vs H Q E h => ?_) (fun cdv A outer s H vs Q E hr h => ?_)
  · obtain ⟨h, st, ad, rfl, _⟩ := h
    rfl
  · obtain ⟨h, st, ad, rfl, x, q⟩ := h
    refine ⟨_, (pss_one (ps_ret (pe_fld (pv 0) rfl))), ?_⟩
    exact ⟨_, rfl, h, C, ad.dx, _, _, rfl, x.at_, T.cl, T.n1, rfl, q⟩
theorem ok_relink_ {f : Addr} {fd : FuncData} (F : Fun K "relink" "Host.relink" m_relink f fd) (T : Ch K C) : FnOk P w K mg base CX0 1 f fd ["self"] (spGet K C fun _ ad => ad.jv) := by
  refine F.ok scm_relink (fun vs H Q E h => ?_) (fun cdv A outer s H vs Q E hr h => ?_)
  · obtain ⟨h, st, ad, rfl, _⟩ := h
    rfl
  · obtain ⟨h, st, ad, rfl, x, q⟩ := h
    refine ⟨_, (pss_one (ps_ret (pe_fld (pv 0) rfl))), ?_⟩
    exact ⟨_, rfl, h, C, ad.dx, _, _, rfl, x.at_, T.cl, T.n4, rfl, q⟩
theorem ok_phase_ {f : Addr} {fd : FuncData} (F : Fun K "phase" "Host.phase" m_phase f fd) (T : Ch K C) : FnOk P w K mg base CX0 1 f fd ["self"] (spGet K C fun st _ => .str st.sg) := by
  refine F.ok scm_phase (fun vs H Q E h => ?_) (fun cdv A outer s H vs Q E hr h => ?_)
  · obtain ⟨h, st, ad, rfl, _⟩ := h
    rfl
  · obtain ⟨h, st, ad, rfl, x, q⟩ := h
    refine ⟨_, (pss_one (ps_ret (pe_fld (pv 0) rfl))), ?_⟩
    exact ⟨_, rfl, h, C, ad.dx, _, _, rfl, x.at_, T.cl, T.n5, rfl, q⟩
theorem ok_log_ {f : Addr} {fd : FuncData} (F : Fun K "log" "Host.log" m_log f fd) (Y : Bn mg) (T : Ch K C) : FnOk P w K mg base CX0 1 f fd ["self"] (spLst K C fun st => st.lg) := by
  refine F.ok scm_log (fun vs H Q E h => ?_) (fun cdv A outer s H vs Q E hr h => ?_)
  · obtain ⟨h, st, ad, rfl, _⟩ := h
    rfl
  · obtain ⟨h, st, ad, rfl, x, q⟩ := h
    refine ⟨_, (pss_one (ps_ret (pe_callTy call_list_of (by rfl) Y.list (by decide +kernel) (pa_cons (pe_fld (pv 0) rfl) pa_nil)))), ?_⟩
    obtain ⟨us, e, d⟩ := x.lg
    refine ⟨_, rfl, h, C, ad.dx, _, _, rfl, x.at_, T.cl, T.n3, rfl, ad.Ll, us, rfl, .inl (SqL.of e), fun L nL => ?_⟩
    exact q _ L us (same_upd nL) nL upd_same (d.same (fz_keep (FzK.of (same_upd nL))))
theorem ok_links_ {f : Addr} {fd : FuncData} (F : Fun K "links" "Host.links" m_links f fd) (Y : Bn mg) (T : Ch K C) : FnOk P w K mg base CX0 1 f fd ["self"] (spLst K C fun st => st.lk.map PyData.str) := by
  refine F.ok scm_links (fun vs H Q E h => ?_) (fun cdv A outer s H vs Q E hr h => ?_)
  · obtain ⟨h, st, ad, rfl, _⟩ := h
    rfl
  · obtain ⟨h, st, ad, rfl, x, q⟩ := h
    refine ⟨_, (pss_one (ps_ret (pe_callTy call_list_of (by rfl) Y.list (by decide +kernel) (pa_cons (pe_fld (pv 0) rfl) pa_nil)))), ?_⟩
    refine ⟨_, rfl, h, C, ad.dx, _, _, rfl, x.at_, T.cl, T.n2, rfl, ad.Lk, _, rfl, .inl (SqL.of x.lk), fun L nL => ?_⟩
    exact q _ L _ (same_upd nL) nL upd_same (dns_strs _)
theorem ok_answers_ {f : Addr} {fd : FuncData} (F : Fun K "answers" "Host.answers" m_answers f fd) (Y : Bn mg) (T : Ch K C) : FnOk P w K mg base CX0 1 f fd ["self"] (spLst K C fun st => st.an) := by
  refine F.ok scm_answers (fun vs H Q E h => ?_) (fun cdv A outer s H vs Q E hr h => ?_)
  · obtain ⟨h, st, ad, rfl, _⟩ := h
    rfl
  · obtain ⟨h, st, ad, rfl, x, q⟩ := h
    refine ⟨_, (pss_one (ps_ret (pe_callTy call_list_of (by rfl) Y.list (by decide +kernel) (pa_cons (pe_fld (pv 0) rfl) pa_nil)))), ?_⟩
    obtain ⟨us, e, d⟩ := x.an
    refine ⟨_, rfl, h, C, ad.dx, _, _, rfl, x.at_, T.cl, T.n7, rfl, ad.La, us, rfl, .inl (SqL.of e), fun L nL => ?_⟩
    exact q _ L us (same_upd nL) nL upd_same (d.same (fz_keep (FzK.of (same_upd nL))))
theorem ok_queue_ {f : Addr} {fd : FuncData} (F : Fun K "queue" "Host.queue" m_queue f fd) (Y : Bn mg) (T : Ch K C) : FnOk P w K mg base CX0 1 f fd ["self"] (spLst K C fun st => st.qu) := by
  refine F.ok scm_queue (fun vs H Q E h => ?_) (fun cdv A outer s H vs Q E hr h => ?_)
  · obtain ⟨h, st, ad, rfl, _⟩ := h
    rfl
  · obtain ⟨h, st, ad, rfl, x, q⟩ := h
    refine ⟨_, (pss_one (ps_ret (pe_callTy call_list_of (by rfl) Y.list (by decide +kernel) (pa_cons (pe_fld (pv 0) rfl) pa_nil)))), ?_⟩
    obtain ⟨us, e, d⟩ := x.qu
    refine ⟨_, rfl, h, C, ad.dx, _, _, rfl, x.at_, T.cl, T.n6, rfl, ad.Lq, us, rfl, .inl (SqL.of e), fun L nL => ?_⟩
    exact q _ L us (same_upd nL) nL upd_same (d.same (fz_keep (FzK.of (same_upd nL))))
/-- Busy, if it takes part -/
def spCF (K : PySem.W.Frag) (C CB : Addr) : Sp := fun vs H Q E => ∃ (h : Addr) (st : HS) (ad : HA), vs = [.ref h] ∧ Hst K C H h st ad ∧ (st.jn = none → Q .non H) ∧ (st.jn ≠ none → Ro E CB "host" (.str st.nm) H)
theorem ok_cf {f : Addr} {fd : FuncData} (F : Fun K "check_free" "Host.check_free" m_check_free f fd) (T : Ch K C) (R : Rz P w K mg base "Busy" "host" CB) : FnOk P w K mg base (L2.CX P w) 3 f fd ["self"] (spCF K C CB) := by
  obtain ⟨fI, fdI, XI, GI, bI⟩ := R.ex
  refine F.okX scm_check_free (fun vs H Q E h => ?_) (fun cdv A outer s H vs Q E hr h => ?_)
  · obtain ⟨h, st, ad, rfl, _⟩ := h
    rfl
  · obtain ⟨h, st, ad, rfl, x, q1, q2⟩ := h
    refine ⟨_, (pss_one (ps_if (pt_cmpR op_notN (pe_fld (pv 0) rfl) pe_non (nomark _))
 (pss_one (ps_raise1 rfl (takes_of rfl rfl rfl rfl) XI R.ty GI (hr.mono (by decide)) bI (by rfl) R.gm (pa_cons (pe_fld (pv 0) rfl) pa_nil)))
 pss_nil)), ?_⟩
    refine ⟨_, rfl, h, C, ad.dx, _, _, rfl, x.at_, T.cl, T.n4, rfl, ?_⟩
    refine ⟨rfl, _, rfl, ?_⟩
    dsimp only
    cases ej : st.jn with
    | none =>
      have e : ad.jv = .non := by
        have := x.jn
        rw [ej] at this
        exact this
      rw [e]
      exact q1 ej
    | some p =>
      have ne : ad.jv ≠ .non := fun z => by
        have := x.jn
        rw [ej, z] at this
        obtain ⟨xs, c⟩ := p
        obtain ⟨t, pa, e, _⟩ := this
        cases e
      rw [decide_eq_false ne]
      refine iteT ⟨_, rfl, h, C, ad.dx, _, _, rfl, x.at_, T.cl, T.n1, rfl, _, rfl, fun ex nd => ?_⟩
      exact q2 (fun z => nomatch (ej.symm.trans z)) _ ex (same_upd nd) upd_same



theorem Hst.keep {h : Addr} {st : HS} {ad : HA} {H' : Hp} (x : Hst K C H h st ad) (o : Off h H H') : H' ad.Lk = some (.lst (st.lk.map V.str)) ∧ (∃ vs, H' ad.Ll = some (.lst vs) ∧ Dns K (fz H') vs st.lg) ∧ Jnd (fz H') ad.jv st.jn ∧ (∃ vs, H' ad.Lq = some (.lst vs) ∧ Dns K (fz H') vs st.qu) ∧ (∃ vs, H' ad.La = some (.lst vs) ∧ Dns K (fz H') vs st.an) := by
  have fk := fz_keep (FzK.off x.at_ o)
  have nh : ∀ {a : Addr} {vs : List V}, H a = some (.lst vs) → H' a = some (.lst vs) := fun e => o _ _ e (ne_of e x.at_ (fun z => nomatch z))
  obtain ⟨v1, a1, b1⟩ := x.lg
  obtain ⟨v2, a2, b2⟩ := x.qu
  obtain ⟨v3, a3, b3⟩ := x.an
  exact ⟨nh x.lk, ⟨v1, nh a1, b1.same fk⟩, x.jn.same fk, ⟨v2, nh a2, b2.same fk⟩, ⟨v3, nh a3, b3.same fk⟩⟩
/-- the links with one more -/
def spJoin (K : PySem.W.Frag) (C : Addr) : Sp := fun vs H Q _ => ∃ (h : Addr) (o : Str) (st : HS) (ad : HA), vs = [.ref h, .str o] ∧ Hst K C H h st ad ∧ st.lk.length < 60 ∧ ∀ H' Lk' ys, Off h H H' → FzK H H' → H Lk' = none → Hst K C H' h { st with lk := ys } { ad with Lk := Lk' } → ys.Perm (st.lk ++ [o]) → sortedS ys = true → Q .non H'
theorem ok_join {f : Addr} {fd : FuncData} (F : Fun K "join_to" "Host.join_to" m_join_to f fd) (Y : Bn mg) (T : Ch K C) : FnOk P w K mg base CX0 1 f fd ["self", "other"] (spJoin K C) := by
  refine F.ok scm_join_to (fun vs H Q E h => ?_) (fun cdv A outer s H vs Q E hr h => ?_)
  · obtain ⟨h, o, st, ad, rfl, _⟩ := h
    rfl
  · obtain ⟨h, o, st, ad, rfl, x, few, q⟩ := h
    refine ⟨_, (pss_one (ps_fld (pv 0) (pe_callB cr_sortedS (by rfl) Y.sorted (by decide +kernel) (pa_cons (pe_lst (StX.pa_star (pe_fld (pv 0) rfl) (pa_cons (pv 1) pa_nil))) pa_nil)) rfl)), ?_⟩
    have lk1 : (st.lk ++ [o]).map V.str = st.lk.map V.str ++ [.str o] := by rw [List.map_append]; rfl
    refine ⟨_, rfl, h, C, ad.dx, _, _, rfl, x.at_, T.cl, T.n2, rfl, ad.Lk, _, rfl, .inr (SqL.of x.lk), _, rfl, ?_, fun l nl => ?_⟩
    · rw [List.length_append, List.length_map]
      exact le400 (by show st.lk.length + 1 ≤ 10000; omega)
    have s1 := same_upd (o := .lst (st.lk.map V.str ++ [.str o])) nl
    have g1 : (upd H l (.lst (st.lk.map V.str ++ [.str o]))) l = _ := upd_same
    generalize upd H l (.lst (st.lk.map V.str ++ [.str o])) = H1 at s1 g1 ⊢
    refine ⟨l, st.lk ++ [o], rfl, SqL.of (by rw [lk1]; exact g1), (by rw [List.length_append, List.length_cons, List.length_nil]; omega), fun ys p pm srt np => ?_⟩
    have s2 := same_upd (o := .lst (ys.map V.str)) np
    have g2 : (upd H1 p (.lst (ys.map V.str))) p = _ := upd_same
    generalize upd H1 p (.lst (ys.map V.str)) = H2 at s2 g2 ⊢
    have s02 := s1.trans s2
    have at2 := s02 _ _ x.at_
    refine ⟨_, rfl, h, C, ad.dx, _, rfl, at2, T.cl, T.n2, (by show 7 < 1000; decide), ?_⟩
    have ph : p ≠ h := ne_of g2 at2 (fun z => nomatch z)
    have of : Off h H (upd H2 h (.ins C ad.dx (putF "linked" (.ref p) [("own_name", .str st.nm), ("linked", .ref ad.Lk), ("logged", .ref ad.Ll), ("joined", ad.jv), ("stage", .str st.sg), ("queued", .ref ad.Lq), ("finished", .ref ad.La)]))) := fun b u e n => by
      rw [upd_ne n]
      exact s02 b u e
    have fk := FzK.off x.at_ of
    obtain ⟨k1, k2, k3, k4, k5⟩ := x.keep of
    obtain ⟨_, el, _⟩ := x.lg
    obtain ⟨_, eq, _⟩ := x.qu
    obtain ⟨_, ea, _⟩ := x.an
    exact q _ p ys of fk (same_no s1 np) ⟨upd_same, (upd_ne ph).trans g2, k2, k3, k4, k5, (ne_of_none (s1 _ _ el) np).symm, (ne_of_none (s1 _ _ eq) np).symm, (ne_of_none (s1 _ _ ea) np).symm, x.sep.2.2.2⟩ pm srt
theorem text_str' {v : V} {cs : Str} {n : Int} (h : textOf v cs n = true) : ∃ x, v = .str x := by
  cases v with
  | str x => exact ⟨x, rfl⟩
  | _ => cases h
theorem txt_nm {v : V} (h : textOf v LET 8 = true) : ∃ x, v = .str x ∧ Nm x := by
  obtain ⟨x, rfl⟩ := text_str' h
  have h : (decide ((1 : Int) ≤ (x.length : Int)) && decide ((x.length : Int) ≤ 8) && x.cps.toList.all fun c => decide (c ∈ LET.cps.toList)) = true := h
  rw [Bool.and_eq_true, Bool.and_eq_true, decide_eq_true_eq, decide_eq_true_eq, List.all_eq_true] at h
  exact ⟨x, rfl, by omega, by omega, fun c hc => of_decide_eq_true (h.2 c hc)⟩
theorem nm_txt {x : Str} (h : Nm x) : textOf (.str x) LET 8 = true := by
  show (decide ((1 : Int) ≤ (x.length : Int)) && decide ((x.length : Int) ≤ 8) && x.cps.toList.all fun c => decide (c ∈ LET.cps.toList)) = true
  rw [Bool.and_eq_true, Bool.and_eq_true, decide_eq_true_eq, decide_eq_true_eq, List.all_eq_true]
  have := h.1
  have := h.2.1
  exact ⟨⟨by omega, by omega⟩, fun c hc => decide_eq_true (h.2.2 c hc)⟩
/-- a link to a new leaf: InvalidName, NameTaken, or one link more -/
def spAddL (K : PySem.W.Frag) (C CN CT : Addr) : Sp := fun vs H Q E => ∃ (h : Addr) (v : V) (st : HS) (ad : HA), vs = [.ref h, v] ∧ Kd K H v ∧ Hst K C H h st ad ∧ st.lk.length < 60 ∧ (textOf v LET 8 = false → Ro E CN "value" v H) ∧
  ∀ o, v = .str o → Nm o → ((o = st.nm ∨ o ∈ st.lk) → Ro E CT "value" v H) ∧ (¬ (o = st.nm ∨ o ∈ st.lk) → ∀ H' Lk' ys, Off h H H' → FzK H H' → H Lk' = none → Hst K C H' h { st with lk := ys } { ad with Lk := Lk' } → ys.Perm (st.lk ++ [o]) → sortedS ys = true → Q .non H')
theorem ok_addl {f : Addr} {fd : FuncData} (F : Fun K "add_link" "Host.add_link" m_add_link f fd) (Y : Bn mg) (T : Ch K C) (R : Rz P w K mg base "InvalidName" "value" CN) (R2 : Rz P w K mg base "NameTaken" "value" CT) (G_is_host_name : Fk P w K mg base CX0 2 "is_host_name" ["value"] (spHost K))
    (M_join_to : Fm P w K mg base CX0 1 C "join_to" ["self", "other"] (spJoin K C)) : FnOk P w K mg base (L2.CX P w) 3 f fd ["self", "other"] (spAddL K C CN CT) := by
  obtain ⟨fI, fdI, XI, GI, bI⟩ := R.ex
  obtain ⟨fI2, fdI2, XI2, GI2, bI2⟩ := R2.ex
  obtain ⟨_, _, MM_join_to, MB_join_to, MF_join_to⟩ := M_join_to.ex
  refine F.okX scm_add_link (fun vs H Q E h => ?_) (fun cdv A outer s H vs Q E hr h => ?_)
  · obtain ⟨h, v, st, ad, rfl, _⟩ := h
    rfl
  · obtain ⟨h, v, st, ad, rfl, kd, x, few, q1, q2⟩ := h
    refine ⟨_, (pss_cons (ps_if (pt_not (pt_val (pe_callF G_is_host_name (hr.mono (by decide)) (by rfl) pass0 (pa_cons (pv 1) pa_nil))))
 (pss_one (ps_raise1 rfl (takes_of rfl rfl rfl rfl) XI R.ty GI (hr.mono (by decide)) bI (by rfl) R.gm (pa_cons (pv 1) pa_nil)))
 pss_nil)
 (pss_cons (ps_if (PW.pt (pw_or (pt_cmpR op_eq (pv 1) (pe_fld (pv 0) rfl) (nomark _)) (pw_or1 (pt_cmpR op_in_seq (pv 1) (pe_fld (pv 0) rfl) rfl))))
 (pss_one (ps_raise1 rfl (takes_of rfl rfl rfl rfl) XI2 R2.ty GI2 (hr.mono (by decide)) bI2 (by rfl) R2.gm (pa_cons (pv 1) pa_nil)))
 pss_nil)
 (pss_one (ps_expr (pe_meth (pv 0) T.cl MM_join_to MF_join_to (hr.mono (by decide)) MB_join_to .nil pass0 (pa_cons (pv 1) pa_nil)))))), ?_⟩
    refine ⟨_, rfl, v, rfl, kd, fun H1 s1 => ⟨_, rfl, ?_⟩⟩
    cases t1 : textOf v LET 8 with
    | false => exact iteT ⟨_, rfl, _, rfl, fun ex nd => q1 t1 _ ex (s1.trans (same_upd nd)) upd_same⟩
    | true =>
    obtain ⟨o, rfl, no⟩ := txt_nm t1
    obtain ⟨q3, q4⟩ := q2 o rfl no
    have x1 := x.same s1
    refine iteF ?_
    refine ⟨_, rfl, _, rfl, h, C, ad.dx, _, _, rfl, x1.at_, T.cl, T.n1, rfl, rfl, _, rfl, ?_⟩
    by_cases e : o = st.nm
    · rw [decide_eq_true (show V.str o = V.str st.nm by rw [e])]
      exact iteT (iteT ⟨_, rfl, _, rfl, fun ex nd => q3 (.inl e) _ ex (s1.trans (same_upd nd)) upd_same⟩)
    rw [decide_eq_false (show ¬ V.str o = V.str st.nm from fun z => e (by injection z))]
    refine iteF ⟨_, rfl, _, rfl, h, C, ad.dx, _, _, rfl, x1.at_, T.cl, T.n2, rfl, ad.Lk, _, rfl, .inl (SqL.of x1.lk), rfl, flat_strs _, _, rfl, ?_⟩
    rw [if_neg (by decide : ¬ false = true), inV_strs]
    by_cases m : o ∈ st.lk
    · rw [decide_eq_true m]
      exact iteT ⟨_, rfl, _, rfl, fun ex nd => q3 (.inr m) _ ex (s1.trans (same_upd nd)) upd_same⟩
    · rw [decide_eq_false m]
      refine iteF ?_
      refine ⟨_, rfl, h, ad.dx, _, rfl, x1.at_, (by rfl), _, rfl, h, o, st, ad, rfl, x1, few, fun H2 Lk' ys off fk nk hx pm srt => ?_⟩
      exact q4 (fun z => z.elim e m) H2 Lk' ys (fun b u eb n => off _ _ (s1 b u eb) n) ((FzK.of s1).trans fk) (same_no s1 nk) hx pm srt
/-- how a host is made -/
structure MkH (P : Program) (w : World) (K : PySem.W.Frag) (mg : Str → Option Value) (base : Heap) (C : Addr) : Prop where
  gm : mg "Host" = some (.ref C)
  ex : ∃ (fI : Addr) (fd : FuncData) (g : List Value → List Value → List Value), Mk K C fI ∧ KBn K fd ["self", "name", "links", "log"] 2 ["links", "log"] g (fun vs zs => vs ++ zs) ∧ FnOk P w K mg base CX0 1 fI fd ["self", "name", "links", "log"] (spHInit K C)
theorem off_same {h : Addr} {H H1 H2 : Hp} (s : Same H H1) (n : H h = none) (o : Off h H1 H2) : Same H H2 := fun b u e => o _ _ (s b u e) (ne_of_none e n)


end
end My

/-! A tuple turned about: t[::-1]. Tuples, and any value, compared. -/
namespace Xt
open PySem PySem.Spec PyProof.Rows L2 Gy
theorem back_ends (n : Nat) : Builtin.Slice.sliceAdjust none none (-1) (n : Int) = ((n : Int) - 1, -1) := rfl
theorem back_places (n : Nat) : Builtin.Slice.slicePlaces ((n : Int) - 1) (-1) (-1) = n := by
  unfold Builtin.Slice.slicePlaces
  rw [if_neg (by decide)]
  by_cases h : n = 0
  · subst h
    rfl
  · rw [if_pos (by omega), show (- -1 : Int) = 1 from rfl, Int.ediv_one]
    omega
theorem back_pick (xs : Array Value) : ((List.range xs.size).filterMap fun (m : Nat) => xs[(((xs.size : Int) - 1) + (m : Int) * (-1)).toNat]?).toArray = xs.toList.reverse.toArray := by
  congr 1
  refine List.ext_getElem? fun i => ?_
  have key : ∀ k, k ≤ xs.size → (List.range k).filterMap (fun (m : Nat) => xs[(((xs.size : Int) - 1) + (m : Int) * (-1)).toNat]?) = xs.toList.reverse.take k := by
    intro k
    induction k with
    | zero => intro _; rfl
    | succ k ih =>
      intro hk
      have lt : xs.size - 1 - k < xs.size := by omega
      have e : (((xs.size : Int) - 1) + (k : Int) * (-1)).toNat = xs.size - 1 - k := by omega
      have g : xs.toList.reverse[k]? = some xs[xs.size - 1 - k] := by
        have l : k < xs.toList.reverse.length := by
          rw [List.length_reverse, Array.length_toList]
          omega
        rw [List.getElem?_eq_getElem l, List.getElem_reverse]
        simp
      rw [List.range_succ, List.filterMap_append, ih (by omega), List.take_add_one, g]
      congr 1
      rw [List.filterMap_cons_some (b := xs[xs.size - 1 - k]) (by rw [e]; exact Array.getElem?_eq_getElem lt)]
      rfl
  rw [key xs.size (Nat.le_refl _), List.take_of_length_le (by rw [List.length_reverse, Array.length_toList]; exact Nat.le_refl _)]
section
variable {prog : Program} {w : World} {A : Around} {E : Value → Shared → Prop} {s : Shared}
theorem applied_back {sl : Addr} {vl vu vs : Value} {n : Nat} {Q : Int × Int × Nat → Shared → Prop} (hs : s.heap.IsSliceOf sl vl vu vs) (pl : IsPart vl none) (pu : IsPart vu none) (ps : IsPart vs (some (-1)))
    (h : Q ((n : Int) - 1, -1, n) s) : wpAny (model prog w) A (Builtin.Slice.sliceApplied (.ref sl) (pure (n : Int))) Q E s := by
  obtain ⟨o, e1, e2, e3⟩ := id hs
  unfold Builtin.Slice.sliceApplied Builtin.Slice.sliceFields
  refine wpAny_bind (wpAny_bind (wpAny_field e1 e3 (x := vl) rfl ?_))
  refine wpAny_bind (wpAny_field e1 e3 (x := vu) rfl ?_)
  refine wpAny_bind (wpAny_field e1 e3 (x := vs) rfl (wpAny_pure ?_))
  refine wpAny_bind (HT.slicePart_ ps ?_)
  show wpAny _ _ (if ((-1 : Int) == 0) = true then _ else _) _ _ s
  rw [if_neg (by decide)]
  refine wpAny_bind (HT.slicePart_ pl ?_)
  refine wpAny_bind (HT.slicePart_ pu ?_)
  refine wpAny_bind (wpAny_pure ?_)
  show wpAny _ _ (pure ((Builtin.Slice.sliceAdjust none none (-1) (n : Int)).1, (-1 : Int), Builtin.Slice.slicePlaces (Builtin.Slice.sliceAdjust none none (-1) (n : Int)).1 (Builtin.Slice.sliceAdjust none none (-1) (n : Int)).2 (-1))) _ _ s
  rw [back_ends, back_places]
  exact wpAny_pure h
theorem item_back {t sl : Addr} {items : Array Value} {vl vu vs : Value} {Q : Value → Shared → Prop} (ht : IsTup s.heap t items) (hs : s.heap.IsSliceOf sl vl vu vs) (pl : IsPart vl none) (pu : IsPart vu none) (ps : IsPart vs (some (-1)))
    (h : Q (.ref s.heap.objs.size) { s with heap := s.heap.push { cls := .type "tuple", data := .seq items.toList.reverse.toArray } }) (hz : items.size ≤ sizeLine) : wpAny (model prog w) A (getItem (.ref t) (.ref sl)) Q E s := by
  have fits : sizeOk (.seq items.toList.reverse.toArray) := by
    show items.toList.reverse.toArray.size ≤ sizeLine
    rw [List.size_toArray, List.length_reverse, Array.length_toList]
    exact hz
  obtain ⟨o, e1, e2, e3⟩ := id hs
  have ty : s.TypeIs (.ref sl) "slice" := ⟨o, e1, e2⟩
  unfold getItem
  try with_reducible refine wpAny_holding ?_
  first
    | refine wpAny_bind (wpAny_pure ?_)
    | skip
  refine wpAny_bind (wpAny_sequenceKey ht.typeIs (by decide) ?_)
  refine wpAny_bind (wpAny_callSpecial?_slot (name := Str.ofString "__getitem__") ht.typeIs PyProof.Rows.slot_tuple_getitem (wpAny_call_entry PyProof.Rows.slot_tuple_getitem ht.typeIs entry_tuple_getitem ?_ (args_tuple_getitem _ _)))
  refine (?_ : wpAny _ _ (Builtin.Tuple.tupleItemsOf (.ref t) >>= _) _ _ s)
  refine wpAny_bind (tupleItemsOf_ ht ?_)
  refine wpAny_bind (wpAny_typeOf ty ?_)
  rw [if_pos (by decide)]
  refine wpAny_bind (applied_back hs pl pu ps ?_)
  have no : ¬ ((((items.size : Int) - 1) == 0 && (-1 : Int) == 1 && items.size == items.size) = true) := fun q => by
    rw [Bool.and_eq_true, Bool.and_eq_true] at q
    exact absurd q.1.2 (by decide)
  refine (?_ : wpAny _ _ (if (((items.size : Int) - 1) == 0 && (-1 : Int) == 1 && items.size == items.size) = true then _ else _) _ _ s)
  rw [if_neg no, back_pick]
  first
    | exact wpAny_bind (m := Builtin.Tuple.tupleExact _) (wpAny_newObj_type (wpAny_pure ⟨_, rfl, wpAny_pure h⟩) fits)
    | exact wpAny_bind (wpAny_bind (m := Builtin.Tuple.tupleExact _) (wpAny_newObj_type (wpAny_pure (wpAny_pure ⟨_, rfl, wpAny_pure h⟩)) fits))
    | exact wpAny_bind (wpAny_bind (m := Builtin.Tuple.tupleExact _) (wpAny_newObj_type (wpAny_pure ⟨_, rfl, wpAny_pure h⟩) fits))
end
section
variable {X : Cx}
/-- t[::-1] -/
def tRevT (K : PySem.W.Frag) (te : TE) : TE := fun σ H Q => te σ H fun x H1 => ∃ a xs, x = .ref a ∧ SqT K H1 a xs ∧ NewT xs.reverse H1 Q
theorem pe_revT {e : Expr} {te : TE} {k : Nat} {p1 p2 p3 pos : Pos} (he : PE X e te) : PE X (.Subscript e (.Slice none none (some (.UnaryOp .USub (.Constant (.int 1) k p1) p2)) p3) pos) (tRevT X.K te) := by
  constructor
  intro pins s σ H Q I h
  refine Subscript_ (thn (he.run pins s σ H _ I h) ?_)
  rintro v s1 ⟨x, H1, I1, r1, a, xs, rfl, hx, q⟩
  cases r1
  have hst : PO X (some (.UnaryOp .USub (.Constant (.int 1) k p1) p2)) (tPart (tUn (rU fun i => .int (-i)) (tC (.int 1)))) := po_some (pe_un un_neg pe_int)
  refine wpAny_Slice (thn (po_none.run pins s1 σ H1 (fun o H2 => o = none ∧ H2 = H1) I1 ⟨rfl, rfl⟩) ?_)
  rintro vl s2 ⟨l, H2, I2, pl, rfl, rfl⟩
  refine thn (po_none.run pins s2 σ H2 (fun o H3 => o = none ∧ H3 = H2) I2 ⟨rfl, rfl⟩) ?_
  rintro vu s3 ⟨u, H3, I3, pu, rfl, rfl⟩
  refine thn (hst.run pins s3 σ H3 (fun o H4 => o = some (-1) ∧ H4 = H3) I3 ⟨1, rfl, -1, rfl, rfl, rfl⟩) ?_
  rintro vs s4 ⟨o, H4, I4, ps, rfl, rfl⟩
  have I5 : Inv X pins σ H4 { s4 with heap := s4.heap.push { cls := .type "slice", data := .fields #[vl, vu, vs] } } := I4.kept (t' := s4.toks) fun b ob z => Heap.get?_push_of_some _ z
  obtain ⟨its, r, ht, hz⟩ := I5.tuple hx
  have len := r.length
  refine (?_ : wpAny (model X.prog X.w) X.A (subscriptTail e _ (.ref a) (.ref s4.heap.objs.size)) (EP X pins σ Q) X.xe _)
  refine tail_any (ops := [.ref a, .ref s4.heap.objs.size]) ht.typeIs (PyProof.Rows.slot_tuple_getitem.lookup) ?_ (by with_unfolding_all rfl)
  refine item_back ht (Heap.IsSliceOf.new _ vl vu vs) pl pu ps ?_ (by rw [List.size_toArray]; omega)
  exact lay_new (n := 0) I5 (by rw [List.length_reverse]; exact hz) r.reverse q
/-- t == u, t != u: one of them has no items -/
def rEmT (K : PySem.W.Frag) (f : Bool → Bool) : R2 := fun x y H Q => ∃ a b xs, x = .ref a ∧ y = .ref b ∧ SqT K H a xs ∧ SqT K H b [] ∧ Q (.bl (f xs.isEmpty)) H
theorem op_eqEmT (hu : X.A.units < cLine) : OpR X (compareOp .Eq) (rEmT X.K id) := by
  intro pins s σ H x y v u Q I rx ry h
  obtain ⟨a, b, xs, rfl, rfl, ha, hb, q⟩ := h
  cases rx
  cases ry
  obtain ⟨i1, r1, t1, _⟩ := I.tuple ha
  obtain ⟨i2, r2, t2, _⟩ := I.tuple hb
  cases r2
  refine SeqAt.eq_tupleAt (e := fun _ => true) t1 t2 hu (fun j h1 h2 => absurd h2 (Nat.not_lt_zero j)) ?_
  refine ⟨.bl (id xs.isEmpty), H, I, ?_, q⟩
  have l := r1.length
  cases xs with
  | nil =>
    cases r1
    rfl
  | cons y ys =>
    cases i1 with
    | nil => cases l
    | cons z zs => rfl
theorem op_neEmT (hu : X.A.units < cLine) : OpR X (compareOp .NotEq) (rEmT X.K not) := by
  intro pins s σ H x y v u Q I rx ry h
  obtain ⟨a, b, xs, rfl, rfl, ha, hb, q⟩ := h
  cases rx
  cases ry
  obtain ⟨i1, r1, t1, _⟩ := I.tuple ha
  obtain ⟨i2, r2, t2, _⟩ := I.tuple hb
  cases r2
  refine SeqAt.RcNeAt.tuples (e := fun _ => true) t1 t2 hu (fun j h1 h2 => absurd h2 (Nat.not_lt_zero j)) _ _ _ _ ?_
  refine ⟨.bl (not xs.isEmpty), H, I, ?_, q⟩
  have l := r1.length
  cases xs with
  | nil =>
    cases r1
    rfl
  | cons y ys =>
    cases i1 with
    | nil => cases l
    | cons z zs => rfl
end
end Xt
namespace Xt
open PySem PySem.Spec PyProof.Rows L2 Gy
/-- l == []: a list and one without items -/
def rEmL (K : PySem.W.Frag) : R2 := fun x y H Q => ∃ a b xs, x = .ref a ∧ y = .ref b ∧ SqL K H a xs ∧ SqL K H b [] ∧ Q (.bl xs.isEmpty) H
theorem op_eqEmL {X : Cx} (hu : X.A.units < cLine) : OpR X (compareOp .Eq) (rEmL X.K) := by
  intro pins s σ H x y v u Q I rx ry h
  obtain ⟨a, b, xs, rfl, rfl, ha, hb, q⟩ := h
  cases rx
  cases ry
  obtain ⟨i1, r1, t1, _⟩ := I.list ha
  obtain ⟨i2, r2, t2, _⟩ := I.list hb
  cases r2
  cases xs with
  | nil =>
    cases r1
    exact SeqAt.eq_listAt (e := fun _ => true) t1.isList t2.isList rfl hu (fun j h1 h2 => absurd h2 (Nat.not_lt_zero j)) ⟨.bl true, H, I, rfl, q⟩
  | cons y ys =>
    cases r1 with
    | cons h t =>
      exact SeqAt.eq_list_lengthsAt t1.isList t2.isList (by simp) hu ⟨.bl false, H, I, rfl, q⟩
end Xt

namespace My
open PySem PySem.Spec PyProof.Rows L2 Gy Xl Xs Xt
/-! ### data that stand while the pot changes -/
def wo (r : Addr) (H : Hp) : Hp := fun a => if a = r then none else H a
theorem wo_at {r a : Addr} {H : Hp} (n : a ≠ r) : wo r H a = H a := if_neg n
theorem wo_same (r : Addr) (H : Hp) : Same (wo r H) H := fun b o e => by
  by_cases h : b = r
  · rw [wo, if_pos h] at e
    cases e
  · rw [wo_at h] at e
    exact e
theorem wo_but {r : Addr} {H H' : Hp} (h : But r H H') : Same (wo r H) (wo r H') := fun b o e => by
  by_cases n : b = r
  · rw [wo, if_pos n] at e
    cases e
  · rw [wo_at n] at e
    rw [wo_at n]
    exact h b o n e
section
variable {K : PySem.W.Frag} {H H' : Hp} {r : Addr}
/-- data none of which is the pot -/
def Db (K : PySem.W.Frag) (r : Addr) (H : Hp) (v : V) (d : PyData) : Prop := Dn K (wo r H) v d
def Dbs (K : PySem.W.Frag) (r : Addr) (H : Hp) (vs : List V) (ds : List PyData) : Prop := Dns K (wo r H) vs ds
theorem Db.dn {v : V} {d : PyData} (h : Db K r H v d) : Dn K H v d := Dn.same (wo_same r H) h
theorem Db.but {v : V} {d : PyData} (h : Db K r H v d) (b : But r H H') : Db K r H' v d := Dn.same (wo_but b) h
theorem Db.same {v : V} {d : PyData} (h : Db K r H v d) (s : Same H H') : Db K r H' v d := h.but (But.of s)
theorem Dbs.dns {vs : List V} {ds : List PyData} (h : Dbs K r H vs ds) : Dns K H vs ds := Dns.same (wo_same r H) h
theorem Dbs.but {vs : List V} {ds : List PyData} (h : Dbs K r H vs ds) (b : But r H H') : Dbs K r H' vs ds := Dns.same (wo_but b) h
theorem Dbs.same {vs : List V} {ds : List PyData} (h : Dbs K r H vs ds) (s : Same H H') : Dbs K r H' vs ds := h.but (But.of s)
theorem tz_wo {t : Addr} {xs : List V} (R : Rng H r) (z : Tz H t xs) : Tz (wo r H) t xs := by
  obtain ⟨o, e, c⟩ := z
  refine ⟨o, ?_, c⟩
  rw [wo_at (fun n => ?_)]
  · exact e
  · obtain ⟨x, y, e2, _⟩ := R
    rw [n, e2] at e
    cases e
theorem Db.tup {t : Addr} {xs : List V} {ds : List PyData} (R : Rng H r) (z : Tz H t xs) (h : Dbs K r H xs ds) : Db K r H (.ref t) (.tuple ds) := Dn.tup (tz_wo R z) h
theorem Db.lst {l : Addr} {xs : List V} {ds : List PyData} (n : l ≠ r) (e : H l = some (.lst xs)) (h : Dbs K r H xs ds) : Db K r H (.ref l) (.list ds) := Dn.lst (by rw [wo_at n]; exact e) h
theorem Db.dic {l : Addr} (n : l ≠ r) (e : H l = some (.dK [])) : Db K r H (.ref l) (.dict []) := Dn.dic (by rw [wo_at n]; exact e)
theorem Db.dic1 {l : Addr} (n : l ≠ r) (e : H l = some (.dK [(Sum.inr "a", .int 1)])) : Db K r H (.ref l) (.dict [(.str "a", .int 1)]) := Dn.dic1 (by rw [wo_at n]; exact e)
theorem Db.str (x : Str) : Db K r H (.str x) (.str x) := Dn.str x
theorem Db.int (i : Int) : Db K r H (.int i) (.int i) := Dn.int i
theorem Db.bl (b : Bool) : Db K r H (.bl b) (.bool b) := Dn.bl b
theorem Db.non : Db K r H .non .none := Dn.non
theorem Dbs.nil : Dbs K r H [] [] := Dns.nil
theorem Dbs.cons {v : V} {vs : List V} {d : PyData} {ds : List PyData} (h : Db K r H v d) (t : Dbs K r H vs ds) : Dbs K r H (v :: vs) (d :: ds) := Dns.cons h t
theorem dns_app : ∀ {vs us : List V} {ds es : List PyData}, Dns K H vs ds → Dns K H us es → Dns K H (vs ++ us) (ds ++ es)
  | _, _, _, _, .nil, h => h
  | _, _, _, _, .cons a t, h => .cons a (dns_app t h)
theorem Dbs.app {vs us : List V} {ds es : List PyData} (h : Dbs K r H vs ds) (h2 : Dbs K r H us es) : Dbs K r H (vs ++ us) (ds ++ es) := dns_app h h2
theorem dns_drop : ∀ {vs : List V} {ds : List PyData} (n : Nat), Dns K H vs ds → Dns K H (vs.drop n) (ds.drop n)
  | _, _, 0, h => h
  | _, _, n + 1, .nil => .nil
  | _, _, n + 1, .cons a t => dns_drop n t
theorem dns_take : ∀ {vs : List V} {ds : List PyData} (n : Nat), Dns K H vs ds → Dns K H (vs.take n) (ds.take n)
  | _, _, 0, _ => .nil
  | _, _, n + 1, .nil => .nil
  | _, _, n + 1, .cons a t => .cons a (dns_take n t)
theorem Dbs.drop {vs : List V} {ds : List PyData} (n : Nat) (h : Dbs K r H vs ds) : Dbs K r H (vs.drop n) (ds.drop n) := dns_drop n h
theorem Dbs.take {vs : List V} {ds : List PyData} (n : Nat) (h : Dbs K r H vs ds) : Dbs K r H (vs.take n) (ds.take n) := dns_take n h
theorem dns_rev : ∀ {vs : List V} {ds : List PyData}, Dns K H vs ds → Dns K H vs.reverse ds.reverse
  | _, _, .nil => .nil
  | _, _, .cons a t => by
    rw [List.reverse_cons, List.reverse_cons]
    exact dns_app (dns_rev t) (.cons a .nil)
theorem Dbs.rev {vs : List V} {ds : List PyData} (h : Dbs K r H vs ds) : Dbs K r H vs.reverse ds.reverse := dns_rev h
theorem dns_mem : ∀ {vs : List V} {ds : List PyData} {v : V}, Dns K H vs ds → v ∈ vs → ∃ d, d ∈ ds ∧ Dn K H v d
  | _, _, _, .nil, h => nomatch h
  | _, _, v, .cons (d := d) a t, h => by
    rcases List.mem_cons.mp h with rfl | h
    · exact ⟨d, List.mem_cons_self, a⟩
    · obtain ⟨e, m, z⟩ := dns_mem t h
      exact ⟨e, List.mem_cons_of_mem _ m, z⟩
theorem Dbs.mem {vs : List V} {ds : List PyData} {v : V} (h : Dbs K r H vs ds) (m : v ∈ vs) : ∃ d, d ∈ ds ∧ Db K r H v d := dns_mem h m
theorem Dbs.len {vs : List V} {ds : List PyData} (h : Dbs K r H vs ds) : vs.length = ds.length := Dns.len h.dns
theorem Dbs.get {vs : List V} {ds : List PyData} (h : Dbs K r H vs ds) {i : Nat} {v : V} (e : vs[i]? = some v) : ∃ d, ds[i]? = some d ∧ Db K r H v d := Dns.get (show Dns K (wo r H) vs ds from h) e
theorem dbs_strs (xs : List Str) : Dbs K r H (xs.map V.str) (xs.map PyData.str) := by
  induction xs with
  | nil => exact .nil
  | cons x xs ih => exact .cons (.str x) ih
theorem upd_new {l : Addr} {o : HO} (e : upd H l o = H') (n : H l = none) : Same H H' ∧ H' l = some o := by
  rw [← e]
  exact ⟨same_upd n, upd_same⟩
end
/-! ### how large they are -/
structure Bd (n W : Nat) (d : PyData) : Prop where
  sh : d.showable = true
  lf : d.leavesShort 40 = true
  dp : d.depth ≤ n
  wt : d.weight ≤ W
  sm : sml d = true
theorem Bd.mono {n W n' W' : Nat} {d : PyData} (h : Bd n W d) (a : n ≤ n') (b : W ≤ W') : Bd n' W' d := ⟨h.sh, h.lf, Nat.le_trans h.dp a, Nat.le_trans h.wt b, h.sm⟩
def Fits (d : PyData) : Prop := d.showable = true ∧ d.depth ≤ 60 ∧ d.shown.length ≤ sizeLine
theorem Bd.fits {n W : Nat} {d : PyData} (h : Bd n W d) (a : n ≤ 60) (b : W ≤ 300000) : Fits d := by
  refine ⟨h.sh, Nat.le_trans h.dp a, ?_⟩
  have l := PyData.shown_le 40 (by decide) d h.lf
  have w := h.wt
  have m : (40 + 2) * d.weight ≤ 42 * 300000 := Nat.mul_le_mul (by decide) (by omega)
  rw [sizeLine_eq]
  omega
theorem bds {n W : Nat} : ∀ {ds : List PyData}, (∀ d ∈ ds, Bd n W d) → PyData.showableAll ds = true ∧ PyData.leavesShortAll 40 ds = true ∧ PyData.depthAll ds ≤ n ∧ PyData.weightAll ds ≤ ds.length * (W + 1) ∧ smls ds = true
  | [], _ => ⟨rfl, rfl, Nat.zero_le _, Nat.zero_le _, rfl⟩
  | d :: ds, h => by
    obtain ⟨a1, a2, a3, a4, a5⟩ := bds (ds := ds) fun e he => h e (List.mem_cons_of_mem _ he)
    have g := h d List.mem_cons_self
    refine ⟨?_, ?_, ?_, ?_, ?_⟩
    · show (d.showable && PyData.showableAll ds) = true
      rw [g.sh, a1]
      rfl
    · show (d.leavesShort 40 && PyData.leavesShortAll 40 ds) = true
      rw [g.lf, a2]
      rfl
    · show max d.depth (PyData.depthAll ds) ≤ n
      have := g.dp
      omega
    · show d.weight + 1 + PyData.weightAll ds ≤ (ds.length + 1) * (W + 1)
      have := g.wt
      rw [Nat.add_mul, Nat.one_mul]
      omega
    · show (sml d && smls ds) = true
      rw [g.sm, a5]
      rfl
theorem Bd.tup {n W L : Nat} {ds : List PyData} (h : ∀ d ∈ ds, Bd n W d) (l : ds.length ≤ L) (L14 : L ≤ 14) : Bd (n + 1) (L * (W + 1)) (.tuple ds) := by
  obtain ⟨a1, a2, a3, a4, a5⟩ := bds h
  refine ⟨a1, a2, Nat.succ_le_succ a3, Nat.le_trans a4 (Nat.mul_le_mul_right _ l), ?_⟩
  show (decide (ds.length ≤ 14) && smls ds) = true
  rw [decide_eq_true (by omega), a5]
  rfl
theorem Bd.lst {n W L : Nat} {ds : List PyData} (h : ∀ d ∈ ds, Bd n W d) (l : ds.length ≤ L) (L14 : L ≤ 14) : Bd (n + 1) (L * (W + 1)) (.list ds) := by
  obtain ⟨a1, a2, a3, a4, a5⟩ := bds h
  refine ⟨a1, a2, Nat.succ_le_succ a3, Nat.le_trans a4 (Nat.mul_le_mul_right _ l), ?_⟩
  show (decide (ds.length ≤ 14) && smls ds) = true
  rw [decide_eq_true (by omega), a5]
  rfl
/-- a part: not deep, not large -/
abbrev A0 (d : PyData) : Prop := Bd 1 120 d
theorem a0_txt {x : Str} (h : (decide (x.length ≤ 20) && x.cps.toList.all fun c => decide (c < 0x110000)) = true := by decide +kernel) : A0 (.str x) := by
  rw [Bool.and_eq_true, decide_eq_true_eq] at h
  refine ⟨rfl, List.all_eq_true.mpr fun c hc => decide_eq_true (Nat.lt_of_lt_of_le (of_decide_eq_true (List.all_eq_true.mp h.2 c hc)) (by decide)), Nat.zero_le _, ?_, decide_eq_true h.1⟩
  show x.cps.size ≤ 120
  have : x.cps.size ≤ 20 := h.1
  omega
theorem a0_nm {x : Str} (h : Nm x) : A0 (.str x) := a0_txt (by
  rw [Bool.and_eq_true, decide_eq_true_eq]
  refine ⟨by have := h.2.1; omega, List.all_eq_true.mpr fun c hc => ?_⟩
  have z : ∀ d ∈ LET.cps.toList, d < 0x110000 := by decide +kernel
  exact decide_eq_true (z c (h.2.2 c hc)))
theorem a0_int {i : Int} (h : (decide ((PyData.shown (.int i)).length ≤ 40) && decide (i.natAbs.log2 < 110)) = true := by decide +kernel) : A0 (.int i) := by
  rw [Bool.and_eq_true, decide_eq_true_eq, decide_eq_true_eq] at h
  refine ⟨?_, decide_eq_true h.1, Nat.zero_le _, ?_, rfl⟩
  · show decide (i.natAbs.log2 < 1920) = true
    exact decide_eq_true (by omega)
  · show (if (i == 0) = true then 0 else i.natAbs.log2 + 1) ≤ 120
    split <;> omega
theorem a0_nat {n : Nat} (h : n ≤ 100) : A0 (.int (n : Int)) := by
  have z : ∀ m : Fin 101, (decide ((PyData.shown (.int ((m.val : Nat) : Int))).length ≤ 40) && decide (((m.val : Nat) : Int).natAbs.log2 < 110)) = true := by decide +kernel
  exact a0_int (z ⟨n, by omega⟩)
theorem a0_bl {b : Bool} : A0 (.bool b) := ⟨rfl, rfl, Nat.zero_le _, Nat.zero_le _, rfl⟩
theorem a0_non : A0 .none := ⟨rfl, rfl, Nat.zero_le _, Nat.zero_le _, rfl⟩
theorem a0_dic1 : A0 (.dict [(.str "a", .int 1)]) := ⟨rfl, by decide +kernel, by decide +kernel, by decide +kernel, rfl⟩
theorem a0_dic : A0 (.dict []) := ⟨rfl, rfl, by decide, Nat.zero_le _, rfl⟩
/-- a part that, if it is a tuple, has few and small parts -/
def PT (m : Nat) (p : PyData) : Prop := ∀ qs, p = .tuple qs → qs.length ≤ m ∧ ∀ q ∈ qs, A0 q
end My

namespace My
open PySem PySem.Spec PyProof.Rows L2 Gy Xl Xs Xt
/-! ### a drawn name -/
section
variable {P : Program} {w : World} {K : PySem.W.Frag} {mg : Str → Option Value} {base : Heap} {H : Hp}
def spName : Sp := fun vs H Q _ => ∃ (r ua : Addr) (us : List Str), vs = [.ref r, .ref ua] ∧ Rng H r ∧ ua ≠ r ∧ H ua = some (.lst (us.map V.str)) ∧ us.length ≤ 20 ∧ (∀ x ∈ us, Nm x) ∧ ∀ H' x, But r H H' → Rng H' r → Nm x → x ∉ us → Q (.str x) H'
theorem ok_name {f : Addr} {fd : FuncData} (F : Fun K "_law_name" "_law_name" s_law_name f fd) (Y : Bn mg) (G_law_draw : Fk P w K mg base CX0 1 "_law_draw" ["_law_pot_here", "_law_count"] spDraw) : FnOk P w K mg base CX0 2 f fd ["_law_pot_here", "_law_used"] spName := by
  refine F.ok sc_law_name (fun vs H Q E h => ?_) (fun cdv A outer s H vs Q E hr h => ?_)
  · obtain ⟨r, ua, us, rfl, _⟩ := h
    rfl
  · obtain ⟨r, ua, us, rfl, R, nu, hu, lu, nmu, q⟩ := h
    have hu64 := hr.units
    refine ⟨_, (pss_cons (ps_set (i := 2) sc_law_name.nd rfl (.inr rfl) pe_str)
 (pss_cons (ps_set (i := 3) sc_law_name.nd rfl (.inl rfl) (pe_ix ix_list (pe_lst (pa_cons pe_int (pa_cons pe_int (pa_cons pe_int (pa_cons pe_int pa_nil))))) (pe_callF G_law_draw (hr.mono (by decide)) (by rfl) pass0 (pa_cons (pv 0) (pa_cons pe_int pa_nil))) (fun _ _ => rfl)))
 (pss_cons (ps_set (i := 4) sc_law_name.nd rfl (.inr rfl) (pe_join pe_str (pe_lc (own := [("_law_k", 6)]) (g := gName 6) (tt := tYes) rfl sc_law_name.nd (pi_range1 (by rfl) Y.range (pa_cons (pv 3) pa_nil)) (blkOk_by (N := ["_law_pot_here", "_law_used", "_law_letters", "_law_size", "_law_word", "_law_choices", "_law_k", "_law_letter", "_law_choice"]) (sc := defScope s_law_name) (by decide +kernel)) (fun _ _ _ _ _ => (pg_name (i := 6) sc_law_name.nd rfl (Or.inl rfl))) (fun _ _ _ _ _ => pts_nil) (fun _ _ _ _ _ => (pe_ix ix_str (pv 2) (pe_callF G_law_draw (hr.mono (by decide)) (by rfl) pass0 (pa_cons (pv 0) (pa_cons pe_int pa_nil))) (fun _ _ => rfl))))))
 (pss_cons (ps_if (PW.pt (pw_and (pt_cmpR (op_neD hu64) (pv 1) (pe_lst pa_nil) (nomark _)) (pw_and1 (pt_cmpR op_eq (pe_callF G_law_draw (hr.mono (by decide)) (by rfl) pass0 (pa_cons (pv 0) (pa_cons pe_int pa_nil))) pe_int (nomark _)))))
 (pss_one (ps_set (i := 4) sc_law_name.nd rfl (.inr rfl) (pe_slice sl_str (pe_op op_add_str (pe_ix ix_list (pv 1) (pe_un un_neg pe_int) (fun _ _ => rfl)) (pv 4)) po_none (po_some pe_int))))
 pss_nil)
 (pss_cons (ps_set (i := 5) sc_law_name.nd rfl (.inl rfl) (pe_op op_cat (pe_lst (pa_cons (pv 4) pa_nil)) (pe_lc (own := [("_law_letter", 7)]) (g := gName 7) (tt := tYes) rfl sc_law_name.nd (pi_str (pv 2)) (blkOk_by (N := ["_law_pot_here", "_law_used", "_law_letters", "_law_size", "_law_word", "_law_choices", "_law_k", "_law_letter", "_law_choice"]) (sc := defScope s_law_name) (by decide +kernel)) (fun _ _ _ _ _ => (pg_name (i := 7) sc_law_name.nd rfl (Or.inl rfl))) (fun _ _ _ _ _ => pts_nil) (fun _ _ _ _ _ => (pe_op op_add_str (pe_slice sl_str (pv 4) po_none (po_some pe_int)) (pv 7))))))
 (pss_one (ps_ret (pe_ix ix_list (pe_lc (own := [("_law_choice", 8)]) (g := gName 8) (tt := tTest (tOp (rIn K true) (tVar 8) (tVar 1))) rfl sc_law_name.nd (pi_list (pv 5)) (blkOk_by (N := ["_law_pot_here", "_law_used", "_law_letters", "_law_size", "_law_word", "_law_choices", "_law_k", "_law_letter", "_law_choice"]) (sc := defScope s_law_name) (by decide +kernel)) (fun _ _ _ _ _ => (pg_name (i := 8) sc_law_name.nd rfl (Or.inl rfl))) (fun _ _ _ _ _ => (pts_one (pt_cmpR (show OpR _ (compareOp .NotIn) (rIn K true) from op_notIn_seq) (pv 8) (pv 1) rfl))) (fun _ _ _ _ _ => (pv 8))) pe_int (fun _ _ => rfl))))))))), ?_⟩
    -- the size
    refine ⟨(by show 4 ≤ sizeLine; decide), fun l2 n2 => ?_⟩
    have ne2 := R.ne n2
    generalize hg : upd _ l2 _ = H2
    obtain ⟨s2, g2⟩ := upd_new hg n2
    clear hg
    have R := R.same s2
    refine ⟨_, rfl, r, 4, rfl, R, by decide, by decide, fun H3 b b3 R c0 c1 => ?_⟩
    have g2 := b3 _ _ ne2 g2
    obtain ⟨v, hv, mv⟩ := at_in (xs := [V.int 1, .int 1, .int 2, .int 8]) c0 c1
    refine ⟨l2, _, b, v, rfl, rfl, SqL.of g2, hv, ?_⟩
    obtain ⟨m, rfl, m1, m8⟩ : ∃ m : Nat, v = .int (m : Int) ∧ 1 ≤ m ∧ m ≤ 8 := by
      simp only [List.mem_cons, List.not_mem_nil, or_false] at mv
      rcases mv with rfl | rfl | rfl | rfl
      · exact ⟨1, rfl, by decide, by decide⟩
      · exact ⟨1, rfl, by decide, by decide⟩
      · exact ⟨2, rfl, by decide, by decide⟩
      · exact ⟨8, rfl, by decide, by decide⟩
    clear mv hv g2
    have b03 : But r H H3 := (But.of s2).trans b3
    have hu := b03 _ _ nu hu
    clear b3
    generalize H3 = HS at hu b03 R ⊢
    -- the letters
    refine ⟨⟨_, rfl⟩, _, rfl, (m : Int), rfl, by omega, by omega, fun D hD => ?_⟩
    have nD : D ≠ r := R.ne hD
    refine lc_it (walk_range (lo := 0) (n := ((m : Int) - 0).toNat)) (fun i H' => But r HS H' ∧ Rng H' r ∧ ∃ ys : List Str, H' D = some (.lst (ys.map V.str)) ∧ ys.length = i ∧ (∀ y ∈ ys, y.length = 1) ∧ ∀ y ∈ ys, ∀ c ∈ y.cps.toList, c ∈ (LET).cps.toList)
      ⟨But.of (same_upd hD), R.upd hD, [], upd_same, rfl, (fun y z => nomatch z), fun y z => nomatch z⟩ (fun _ _ _ _ => trivial) ?_ ?_
    · rintro j y H4 H5 hj ⟨b4, R4, ys, hY, yl, y1, y2⟩ ⟨rfl, rfl⟩
      refine ⟨rfl, ?_⟩
      dsimp only [tYes]
      refine iteT ?_
      refine ⟨_, rfl, _, rfl, r, 26, rfl, R4, by decide, by decide, fun H6 e b6 R6 e0 e1 => ?_⟩
      obtain ⟨c, hc, mc⟩ := at_in (xs := (LET).cps.toList) e0 (by rw [show (LET).cps.toList.length = 26 by decide +kernel]; exact e1)
      refine ⟨LET, e, c, rfl, rfl, (by decide +kernel), hc, _, b6 D _ nD hY, ?_, ?_, ?_, ys ++ [⟨#[c]⟩], ?_, ?_, ?_, ?_⟩
      · rw [List.length_map, yl]
        exact small200 (by omega)
      · exact (b4.trans b6).upd hD
      · exact R6.upd2 nD
      · rw [upd_same, List.map_append]
        rfl
      · rw [List.length_append, yl]
        rfl
      · intro y hy'
        rcases List.mem_append.mp hy' with z | z
        · exact y1 y z
        · rw [List.mem_singleton.mp z]
          rfl
      · intro y hy'
        rcases List.mem_append.mp hy' with z | z
        · exact y2 y z
        · rw [List.mem_singleton.mp z]
          intro c' hc'
          have hc2 : c' ∈ [c] := hc'
          rw [List.mem_singleton.mp hc2]
          exact mc
    rintro H4 ⟨b4, R4, ys, hY, yl, y1, y2⟩
    refine ⟨"", D, ys, rfl, rfl, .inl (SqL.of hY), ?_, ?_⟩
    · have e1 : (ys.map (·.length)).sum ≤ ys.length := sum_ones ys y1
      show (ys.map (·.length)).sum + ys.length * 0 ≤ 16777216
      omega
    rw [TL.join_eq]
    have jl := join_len ys y1
    have ji := join_in ys y2
    generalize Str.join "" ys = x0 at jl ji ⊢
    clear y1 y2 hY
    have nm1 : Nm x0 := ⟨by omega, by omega, ji⟩
    have b04 := b03.trans b4
    have hu := b4 _ _ nu hu
    have R := R4
    clear b4 R4 jl ji yl
    -- perhaps with the last name ahead of it
    refine ⟨_, rfl, Nat.zero_le _, fun l5 n5 => ?_⟩
    generalize hg : upd _ l5 _ = H5
    obtain ⟨s5, g5⟩ := upd_new hg n5
    clear hg
    have hu := s5 _ _ hu
    have R := R.same s5
    have b04 := b04.trans (But.of s5)
    refine ⟨_, _, .lst (SqL.of hu) (dps_strs us), .lst (SqL.of g5) .nil, sh_strs us nmu, rfl, _, rfl, ite2 (fun c3 => ?A) (fun c3 => ?B)⟩
    case' A =>
      obtain ⟨us1, ul, eu⟩ : ∃ us1 ul, us = us1 ++ [ul] := by
        cases us with
        | nil => exact absurd c3 (by decide)
        | cons x t => exact ⟨_, _, (List.dropLast_concat_getLast (l := x :: t) (by simp)).symm⟩
      have nl := nmu ul (by rw [eu]; exact List.mem_append_right _ List.mem_cons_self)
      refine ⟨_, rfl, r, 5, rfl, R, by decide, by decide, fun H7 e b7 R7 e0 e1 => ⟨rfl, _, rfl, ite2 (fun c4 => ?C) (fun c4 => ?D)⟩⟩
      case' C =>
        have hu := b7 _ _ nu hu
        have R := R7
        have b05 := b04.trans b7
        have nm2 := nm_cut nl nm1
        refine ⟨_, rfl, 1, rfl, ua, _, -1, .str ul, rfl, rfl, SqL.of hu, (by rw [eu, List.map_append]; exact atI_last _ _), _, rfl, ul, x0, rfl, rfl, (by have := nl.2.1; have := nm1.2.1; exact Nat.le_of_lt (small200 (by omega))), 8, rfl, _, rfl, (by have := nl.2.1; have := nm1.2.1; rw [strLen_append]; exact Nat.le_of_lt (small200 (by omega))), ?_⟩
        generalize cutS (ul ++ x0) none (some 8) = x9 at nm2 ⊢
      case' D =>
        have hu := b7 _ _ nu hu
        have R := R7
        have b05 := b04.trans b7
        have nm2 := nm1
        generalize x0 = x9 at nm2 ⊢
    case' B =>
      have b05 := b04
      have nm2 := nm1
      generalize x0 = x9 at nm2 ⊢
    all_goals
      refine ⟨_, rfl, (by show 1 ≤ sizeLine; decide), fun l6 n6 => ?_⟩
      generalize hg : upd _ l6 _ = H6
      obtain ⟨s6, g6⟩ := upd_new hg n6
      clear hg
      refine ⟨_, rfl, LET, rfl, fun D9 hD9 => ?_⟩
      refine lc_it (walk_str (z := LET)) (fun i H' => Same H6 H' ∧ H' D9 = some (.lst (((LET.cps.toList.take i).map (tl x9)).map V.str)))
        ⟨same_upd hD9, upd_same⟩ (fun _ _ _ _ => trivial) ?_ ?_
      · rintro j y H7 H8 hj ⟨sm, hZ⟩ ⟨rfl, c, hc, rfl⟩
        have hc' : LET.cps.toList[j]? = some c := by rw [Array.getElem?_toList]; exact hc
        refine ⟨rfl, ?_⟩
        dsimp only [tYes]
        refine iteT ?_
        have n8 := nm2.2.1
        have n7 : (cutS x9 none (some 7)).length ≤ 8 := by
          rw [show (some 7 : Option Int) = some ((7 : Nat) : Int) from rfl, cut_some]
          show (x9.cps.toList.take (min 7 x9.length)).toArray.size ≤ 8
          rw [List.size_toArray, List.length_take]
          omega
        refine ⟨_, rfl, 7, rfl, x9, rfl, le200 (by omega), _, rfl, _, _, rfl, rfl, (by show (cutS x9 none (some 7)).length + 1 ≤ sizeLine; exact le200 (by omega)), _, hZ, ?_, same_upd2 sm hD9, ?_⟩
        · rw [List.length_map, List.length_map, List.length_take]
          have : LET.cps.size = 26 := by decide +kernel
          exact small200 (by omega)
        · rw [upd_same, List.take_add_one, hc', List.map_append, List.map_append]
          rfl
      rintro H7 ⟨sm7, hZ⟩
      rw [List.take_of_length_le (by rw [Array.length_toList]; exact Nat.le_refl _)] at hZ
      refine ⟨l6, D9, _, _, rfl, rfl, sm7 _ _ g6, hZ, ?_, fun p hp => ?_⟩
      · rw [List.length_map, List.length_map, show LET.cps.toList.length = 26 by decide +kernel]
        exact le200 (show 1 + 26 ≤ 10000 by decide)
      generalize hg : upd _ p _ = H8
      obtain ⟨s8, hT⟩ := upd_new hg hp
      clear hg
      have hT : H8 p = some (.lst ((triesOf x9).map V.str)) := hT
      have s48 := s6.trans (sm7.trans s8)
      have hu := s48 _ _ hu
      have R := R.same s48
      have b08 := b05.trans (But.of s48)
      clear g6 hZ
      -- the first that is not used
      refine ⟨_, rfl, p, rfl, ⟨_, SqL.of hT⟩, fun D hD => ?_⟩
      refine lc_it (walk_list (K := K) (a := p) (xs := (triesOf x9).map V.str)) (fun i H' => Same H8 H' ∧ H' D = some (.lst ((((triesOf x9).take i).filter (fun y => decide (y ∉ us))).map V.str)))
        ⟨same_upd hD, upd_same⟩ (fun i H' _ h => SqL.of (h.1 _ _ hT)) ?_ ?_
      · rintro j y H9 H10 hj ⟨sm, hZ⟩ ⟨rfl, hy⟩
        rw [List.getElem?_map] at hy
        obtain ⟨z, hz, rfl⟩ := Option.map_eq_some_iff.mp hy
        refine ⟨rfl, ?_⟩
        refine ⟨_, rfl, _, rfl, ua, _, rfl, .inl (SqL.of (sm _ _ hu)), rfl, flat_strs _, _, rfl, ite2 (fun c8 => ?_) (fun c8 => ?_)⟩
        · have c8' : (!inV (.str z) (us.map V.str)) = true := c8
          rw [inV_strs] at c8'
          have nz : z ∉ us := fun w => by
            rw [decide_eq_true w] at c8'
            cases c8'
          refine ⟨_, rfl, _, hZ, ?_, same_upd2 sm hD, ?_⟩
          · rw [List.length_map]
            refine small200 (Nat.le_trans (List.length_filter_le _ _) ?_)
            rw [List.length_take]
            have : (triesOf x9).length = 27 := by
              show (LET.cps.toList.map (tl x9)).length + 1 = 27
              rw [List.length_map, show LET.cps.toList.length = 26 by decide +kernel]
            omega
          · rw [upd_same, List.take_add_one, hz, List.filter_append, List.map_append]
            show some (HO.lst _) = some (HO.lst (_ ++ (List.filter _ [z]).map V.str))
            rw [List.filter_cons_of_pos (by exact decide_eq_true nz)]
            rfl
        · have c8' : ¬ (!inV (.str z) (us.map V.str)) = true := c8
          rw [inV_strs] at c8'
          have nz : z ∈ us := by
            cases w : decide (z ∈ us) with
            | true => exact of_decide_eq_true w
            | false => exact absurd (by rw [w]; rfl) c8'
          refine ⟨sm, ?_⟩
          rw [hZ, List.take_add_one, hz, List.filter_append]
          show some (HO.lst _) = some (HO.lst ((_ ++ List.filter _ [z]).map V.str))
          rw [List.filter_cons_of_neg (by simpa using nz), List.filter_nil, List.append_nil]
      rintro H9 ⟨s9, hZ⟩
      rw [List.length_map, List.take_of_length_le (Nat.le_refl _)] at hZ
      obtain ⟨z, zs, ez⟩ := tries_out (x := x9) (xs := us) (by omega)
      rw [ez] at hZ
      have mz : z ∈ (triesOf x9).filter (fun y => decide (y ∉ us)) := by rw [ez]; exact List.mem_cons_self
      have nz := tries_nm nm2 z (List.mem_filter.mp mz).1
      exact ⟨D, _, 0, .str z, rfl, rfl, SqL.of hZ, atI_nat (j := 0) rfl, q _ z (b08.trans (But.of s9)) (R.same s9) nz (by simpa using (List.mem_filter.mp mz).2)⟩
end
end My

namespace My
open PySem PySem.Spec PyProof.Rows L2 Gy Xl Xs Xt Xo Xp
/-! ### a host's messages -/
def sendD (w x : Str) (p : Str × Int) : PyData := .tuple [.str p.1, .tuple [.str "message", .str w, .str x, .int p.2]]
/-- whom a host sends a message on to -/
def outs (st : HS) (src : Option Str) (b : Int) : List (Str × Int) := match st.jn with
  | none => (gls src st.lk).map fun g => (g, 0)
  | some (xs, c) => match posn xs (.str st.nm) with
    | some j => sents (fun g => fwd xs c j st.sg src g b) (gls src st.lk)
    | none => []
/-- the relink in which it takes part is one, with this host on its path -/
def JnOk (st : HS) : Prop := ∀ xs c, st.jn = some (xs, c) → isRel (reld xs c) = true ∧ sml (reld xs c) = true ∧ ∃ j, posn xs (.str st.nm) = some j
section
variable {P : Program} {w : World} {K : PySem.W.Frag} {mg : Str → Option Value} {base : Heap} {H : Hp} {C CR CU CW : Addr}
def logD (w x : Str) : PyData := .tuple [.str w, .str x]
theorem outs_len (st : HS) (src : Option Str) (b : Int) : (outs st src b).length ≤ st.lk.length := by
  have g : (gls src st.lk).length ≤ st.lk.length := List.length_filter_le _ _
  unfold outs
  split
  · rw [List.length_map]
    exact g
  · split
    · exact Nat.le_trans (List.length_filterMap_le _ _) g
    · exact Nat.zero_le _
theorem pri_get {H : Hp} : ∀ {ts : List Addr} {ps : List (Str × Int)} {i : Nat} {y : V}, PrI H ts ps → (ts.map V.ref)[i]? = some y → ∃ t p, y = .ref t ∧ ps[i]? = some p ∧ Tz H t [.str p.1, .int p.2]
  | [], _, i, y, _, h => by simp at h
  | t :: ts, [], i, y, h, _ => h.elim
  | t :: ts, p :: ps, 0, y, h, e => by
    simp at e
    exact ⟨t, p, e.symm, rfl, h.1⟩
  | t :: ts, p :: ps, i + 1, y, h, e => by
    simp only [List.map_cons, List.getElem?_cons_succ] at e
    exact pri_get (ts := ts) (ps := ps) (i := i) h.2 e
theorem seq_use {te : TE} {g : TG} {rest : TS} {D : Ends} {σ : L2.St} {H : Hp} (S : V → Hp → Prop) (h1 : ∀ Q' : VK, (∀ v H', S v H' → Q' v H') → te σ H Q') (h2 : ∀ v H', S v H' → g v σ H' fun σ2 H2 => rest D σ2 H2) : tSeq (tAsg te g) rest D σ H := h1 _ h2
theorem Hst.log {h : Addr} {st : HS} {ad : HA} {lv : List V} {v : V} {d : PyData} (x : Hst K C H h st ad) (e : H ad.Ll = some (.lst lv)) (dl : Dns K (fz H) lv st.lg) (dn : Dn K (fz H) v d) : Hst K C (upd H ad.Ll (.lst (lv ++ [v]))) h { st with lg := st.lg ++ [d] } ad := by
  have fk := fz_keep ((FzK.refl H).upd (w := .lst (lv ++ [v])) e (fun _ _ z => nomatch z))
  obtain ⟨v2, a2, b2⟩ := x.qu
  obtain ⟨v3, a3, b3⟩ := x.an
  obtain ⟨s1, s2, s3, s4, s5, s6⟩ := x.sep
  exact ⟨(upd_ne (ne_of x.at_ e (fun z => nomatch z))).trans x.at_, (upd_ne s1).trans x.lk, ⟨_, upd_same, dns_app (dl.same fk) (.cons (dn.same fk) .nil)⟩, x.jn.same fk, ⟨v2, (upd_ne s4.symm).trans a2, b2.same fk⟩, ⟨v3, (upd_ne s5.symm).trans a3, b3.same fk⟩, x.sep⟩
def spLAF (K : PySem.W.Frag) (C : Addr) : Sp := fun vs H Q _ => ∃ (h : Addr) (w x : Str) (src : Option Str) (b : Int) (st : HS) (ad : HA), vs = [.ref h, .str w, .str x, optV src, .int b] ∧ Hst K C H h st ad ∧ st.lk.length ≤ 20 ∧ sortedS st.lk = true ∧ st.lg.length ≤ 1000 ∧ JnOk st ∧ Nm st.nm ∧
  ∀ H' L us, (∀ y o, H y = some o → y ≠ ad.Ll → H' y = some o) → Hst K C H' h { st with lg := st.lg ++ [logD w x] } ad → H L = none → H' L = some (.lst us) → Dns K (fz H') us ((outs st src b).map (sendD w x)) → Q (.ref L) H'
theorem dn_jnd {H : Hp} {v : V} {xs : List Str} {c : Nat} (j : Jnd (fz H) v (some (xs, c))) : Dn K H v (reld xs c) := by
  obtain ⟨t, pa, rfl, a, b⟩ := j
  exact (dn_reld a b).same (fz_same H)
theorem ok_laf {f : Addr} {fd : FuncData} {dvs : List V} (F : FunD K "log_and_forward" "Host.log_and_forward" (defArgs m_log_and_forward) (defBody m_log_and_forward) (defScope m_log_and_forward) dvs [] f fd) (Y : Bn mg) (T : Ch K C)
    (GP_forwards : Fw P w K mg base (L2.CX P w) 8 "forwards" ["links", "source", "bit", "relink", "host", "phase"] 1 ["source", "bit", "relink", "host", "phase"] (fun vs zs => vs ++ zs) (spForw K CR CU)) : FnOk P w K mg base CX0 9 f fd ["self", "writer", "word", "source", "bit"] (spLAF K C) := by
  refine F.ok (CX := CX0) scm_log_and_forward (fun vs H Q E h => ?_) (fun cdv A outer s H vs Q E hr h => ?_)
  · obtain ⟨h, w, x, src, b, st, ad, rfl, _⟩ := h
    rfl
  · obtain ⟨h, w, x, src, b, st, ad, rfl, hs, l20, srt, lgl, jok, nnm, q⟩ := h
    refine ⟨_, (pss_cons (ps_expr (pe_bm PySem.F.plainAttrs_list PySem.F.slot_list_append PySem.F.type_list_append mt_append (pe_fld (pv 0) rfl) (pa_cons (pe_tupZ (pa_cons (pv 1) (pa_cons (pv 2) pa_nil))) pa_nil)))
 (pss_cons (ps_set (i := 5) scm_log_and_forward.nd rfl (.inl rfl) (pe_callNF (E := fun _ _ _ => False) GP_forwards (hr.mono (by decide)) (by rfl) passN (pa_cons (pe_fld (pv 0) rfl) pa_nil) (pk_cons (pv 3) (pk_cons (pv 4) (pk_cons (pe_fld (pv 0) rfl) (pk_cons (pe_fld (pv 0) rfl) (pk_cons (pe_fld (pv 0) rfl) pk_nil)))))))
 (pss_one (ps_ret (pe_lc (own := [("goal", 6), ("sent", 7)]) (g := gTup K 2 (gCons (gName 6) (gCons (gName 7) gNil))) (tt := tYes) rfl scm_log_and_forward.nd (pi_list (pv 5)) (blkOk_by (N := ["self", "writer", "word", "source", "bit", "goals", "goal", "sent"]) (sc := defScope m_log_and_forward) (by decide +kernel)) (fun _ _ _ _ _ => (pg_tup (by rfl) (pgs_cons (pg_name (i := 6) scm_log_and_forward.nd rfl (Or.inl rfl)) (pgs_cons (pg_name (i := 7) scm_log_and_forward.nd rfl (Or.inl rfl)) pgs_nil)))) (fun _ _ _ _ _ => pts_nil) (fun _ _ _ _ _ => (pe_tupZ (pa_cons (pv 6) (pa_cons (pe_tupZ (pa_cons pe_str (pa_cons (pv 1) (pa_cons (pv 2) (pa_cons (pv 7) pa_nil))))) pa_nil))))))))), ?_⟩
    obtain ⟨lv, el, dl⟩ := hs.lg
    have ll := Dns.len dl
    refine ⟨_, rfl, h, C, ad.dx, _, _, rfl, hs.at_, T.cl, T.n3, rfl, .inl ⟨rfl, _, SqL.of el⟩, _, rfl, _, rfl, (by show 2 ≤ sizeLine; decide), fun t o nt s1 z1 => ?_⟩
    generalize upd H t o = H1 at s1 z1 ⊢
    have el1 := s1 _ _ el
    refine ⟨ad.Ll, lv, .ref t, rfl, rfl, el1, (by rw [sizeLine_eq]; omega), ?_⟩
    have x2 := (hs.same s1).log el1 (dl.same (fz_keep (FzK.of s1))) (show Dn K (fz H1) (.ref t) (logD w x) from .tup (Tz.fz z1) (.cons (.str w) (.cons (.str x) .nil)))
    have fr2 : ∀ y o, H y = some o → y ≠ ad.Ll → (upd H1 ad.Ll (.lst (lv ++ [.ref t]))) y = some o := fun y o e n => by
      rw [upd_ne n]
      exact s1 _ _ e
    have nn2 : ∀ {y}, (upd H1 ad.Ll (.lst (lv ++ [.ref t]))) y = none → H y = none := fun {y} e => by
      by_cases c : y = ad.Ll
      · rw [c, upd_same] at e
        cases e
      · rw [upd_ne c] at e
        exact same_no s1 e
    generalize upd H1 ad.Ll (.lst (lv ++ [.ref t])) = H2 at x2 fr2 nn2 ⊢
    dsimp only
    refine seq_use (fun v H3 => ∃ L, v = .ref L ∧ Same H2 H3 ∧ Lp H3 L (outs st src b)) (fun Q' hS => ?_) (fun v H3 hS => ?_)
    · have j2 := x2.jn
      cases ej : st.jn with
      | none =>
        have e : ad.jv = .non := by
          have : Jnd (fz H2) ad.jv st.jn := j2
          rw [ej] at this
          exact this
        refine ⟨_, rfl, h, C, ad.dx, _, _, rfl, x2.at_, T.cl, T.n2, rfl, _, rfl, _, rfl, _, rfl, h, C, ad.dx, _, _, rfl, x2.at_, T.cl, T.n4, rfl, _, rfl, h, C, ad.dx, _, _, rfl, x2.at_, T.cl, T.n1, rfl, _, rfl, h, C, ad.dx, _, _, rfl, x2.at_, T.cl, T.n5, rfl, rfl, rfl, ?_⟩
        refine ⟨ad.Lk, st.lk, src, b, ad.jv, .str st.nm, .none, .str st.nm, st.sg, rfl, x2.lk, l20, (by rw [e]; exact .non), rfl, .str _, (a0_nm nnm).sm, fun _ ys H3 L pm sr s3 nL lp => ?_, (fun z => absurd rfl z), fun xs c z => nomatch z⟩
        have ey := sort_uniq pm sr (List.Perm.refl _) srt
        subst ey
        refine hS _ _ ⟨L, rfl, s3, ?_⟩
        unfold outs
        rw [ej]
        exact lp
      | some p =>
        obtain ⟨xs, c⟩ := p
        have dj : Dn K H2 ad.jv (reld xs c) := dn_jnd (by
          have : Jnd (fz H2) ad.jv st.jn := j2
          rw [ej] at this
          exact this)
        obtain ⟨ir, sm, j, hj⟩ := jok xs c ej
        refine ⟨_, rfl, h, C, ad.dx, _, _, rfl, x2.at_, T.cl, T.n2, rfl, _, rfl, _, rfl, _, rfl, h, C, ad.dx, _, _, rfl, x2.at_, T.cl, T.n4, rfl, _, rfl, h, C, ad.dx, _, _, rfl, x2.at_, T.cl, T.n1, rfl, _, rfl, h, C, ad.dx, _, _, rfl, x2.at_, T.cl, T.n5, rfl, rfl, rfl, ?_⟩
        refine ⟨ad.Lk, st.lk, src, b, ad.jv, .str st.nm, reld xs c, .str st.nm, st.sg, rfl, x2.lk, l20, dj, sm, .str _, (a0_nm nnm).sm, (fun z => nomatch z), (fun _ z => absurd (ir.symm.trans z) (by decide)), fun xs' c' ee _ => ?_⟩
        obtain ⟨rfl, rfl⟩ := reld_inj ee
        refine ⟨fun z => (by rw [hj] at z; cases z), fun j' hj' ys H3 L pm sr s3 nL lp => ?_⟩
        have ey := sort_uniq pm sr (List.Perm.refl _) srt
        subst ey
        refine hS _ _ ⟨L, rfl, s3, ?_⟩
        unfold outs
        rw [ej]
        dsimp only
        rw [hj']
        exact lp
    · obtain ⟨L, rfl, s3, ts, eL, pr⟩ := hS
      have x3 := x2.same s3
      have ol := outs_len st src b
      generalize outs st src b = out at pr ol q
      have tl := pr.len
      refine ⟨_, rfl, L, rfl, ⟨_, SqL.of eL⟩, fun D nD => ?_⟩
      have nH : H D = none := nn2 (same_no s3 nD)
      refine lc_it (walk_list (K := K) (a := L) (xs := ts.map V.ref)) (fun i H' => Same H3 H' ∧ ∃ us, H' D = some (.lst us) ∧ Dns K (fz H') us ((out.take i).map (sendD w x)))
        ⟨same_upd nD, [], upd_same, .nil⟩ (fun i H' _ hI => SqL.of (hI.1 _ _ eL)) ?_ ?_
      · rintro i y H4 H5 hi ⟨s4, us, hD, du⟩ ⟨rfl, hy⟩
        obtain ⟨t, p, rfl, hp, tz⟩ := pri_get (pr.same s4) hy
        have lu := Dns.len du
        rw [List.length_map, List.length_take] at lu
        refine ⟨t, _, rfl, tz.sq, rfl, _, _, rfl, _, _, rfl, rfl, rfl, ?_⟩
        dsimp only [tYes]
        refine iteT ?_
        refine ⟨_, rfl, _, rfl, _, rfl, _, rfl, (by show 4 ≤ sizeLine; decide), fun t1 o1 n1 s5 z5 => ?_⟩
        generalize upd _ t1 o1 = H6 at s5 z5 ⊢
        refine ⟨(by show 2 ≤ sizeLine; decide), fun t2 o2 n2 s6 z6 => ?_⟩
        generalize upd H6 t2 o2 = H7 at s6 z6 ⊢
        have s46 := s5.trans s6
        have hD7 := s46 _ _ hD
        have fk := fz_keep ((FzK.refl H7).upd (w := .lst (us ++ [.ref t2])) hD7 (fun _ _ z => nomatch z))
        refine ⟨_, hD7, small200 (by omega), same_upd2 (s4.trans s46) nD, us ++ [.ref t2], upd_same, ?_⟩
        rw [List.take_add_one, hp, List.map_append]
        refine dns_app ((du.same (fz_keep (FzK.of s46))).same fk) (.cons (Dn.same fk ?_) .nil)
        exact .tup (Tz.fz z6) (.cons (.str _) (.cons (.tup (Tz.fz (z5.same s6)) (.cons (.str _) (.cons (.str w) (.cons (.str x) (.cons (.int _) .nil))))) .nil))
      · rintro H4 ⟨s4, us, hD, du⟩
        rw [List.length_map, tl, List.take_of_length_le (Nat.le_refl _)] at du
        exact q H4 D us (fun y o e n => s4 _ _ (s3 _ _ (fr2 y o e n))) (x3.same s4) nH hD du
end
end My

namespace My
open PySem PySem.Spec PyProof.Rows L2 Gy Xl Xs Xt
/-! ### what a control item makes a host do -/
structure Res where
  sends : List (Str × Str)
  ph : Str
  ad : Option Str
  rm : Option Str
  oc : Option Str
def cutB (xs : List Str) (c j : Nat) : Option Str := if j = c + 1 then some (xs.getD c "") else none
def askS (xs : List Str) (c j : Nat) : Res := if j + 1 < xs.length then ⟨[(xs.getD (j + 1) "", "ask")], "reserved", none, none, none⟩ else ⟨[(xs.getD (j - 1) "", "yes")], "turned", some (xs.getD 0 ""), cutB xs c j, none⟩
def noS (xs : List Str) (_ j : Nat) : Res := if j = 0 then ⟨[], "free", none, none, some "refused"⟩ else ⟨[(xs.getD (j - 1) "", "no")], "free", none, none, none⟩
def firstS (xs : List Str) (c : Nat) : Res := if c = 0 then ⟨[(xs.getD 1 "", "go")], "free", some (xs.getD (xs.length - 1) ""), some (xs.getD 1 ""), some "done"⟩ else ⟨[(xs.getD 1 "", "go")], "turned", some (xs.getD (xs.length - 1) ""), none, none⟩
def yesS (xs : List Str) (c j : Nat) : Res := if j = 0 then firstS xs c else ⟨[(xs.getD (j - 1) "", "yes")], if j ≤ c then "reserved" else "turned", none, cutB xs c j, none⟩
def goS (xs : List Str) (c j : Nat) : Res := if j < c then ⟨[(xs.getD (j + 1) "", "go")], "turned", none, none, none⟩ else if j = c then ⟨[(xs.getD (j + 1) "", "go"), (xs.getD (j - 1) "", "back")], "free", none, some (xs.getD (j + 1) ""), none⟩
  else if j + 1 < xs.length then ⟨[(xs.getD (j + 1) "", "go")], "free", none, none, none⟩ else ⟨[], "free", none, none, none⟩
def backS (xs : List Str) (_ j : Nat) : Res := if j = 0 then ⟨[], "free", none, none, some "done"⟩ else ⟨[(xs.getD (j - 1) "", "back")], "free", none, none, none⟩
def recv (xs : List Str) (c j : Nat) (kd : Str) : Bool := if kd = "back" then decide (j < c) else if j = 0 then decide (kd = "no" ∨ kd = "yes") else decide (j + 1 < xs.length) || decide (kd = "ask" ∨ kd = "go")
/-- its pairs stand at ts -/
def Prs (H : Hp) : List Addr → List (Str × Str) → Prop
  | [], [] => True
  | t :: ts, p :: ps => Tz H t [.str p.1, .str p.2] ∧ Prs H ts ps
  | _, _ => False
theorem Prs.same {H H' : Hp} (s : Same H H') : ∀ {ts : List Addr} {ps : List (Str × Str)}, Prs H ts ps → Prs H' ts ps
  | [], [], _ => trivial
  | _ :: _, _ :: _, h => ⟨h.1.same s, Prs.same s h.2⟩
/-- such a result stands at t, its list at L -/
def At (H : Hp) (t L : Addr) (r : Res) : Prop := Tz H t [.ref L, .str r.ph, optV r.ad, optV r.rm, optV r.oc] ∧ ∃ ts, H L = some (.lst (ts.map V.ref)) ∧ Prs H ts r.sends
theorem at0 {H H1 : Hp} {t L : Addr} {o : HO} {ph : Str} {ad rm oc : Option Str} (_ : Same H H1) (nL : H1 L = none) (st : Same (upd H1 L (.lst [])) (upd (upd H1 L (.lst [])) t o)) (tz : Tz (upd (upd H1 L (.lst [])) t o) t [.ref L, .str ph, optV ad, optV rm, optV oc]) :
    At (upd (upd H1 L (.lst [])) t o) t L ⟨[], ph, ad, rm, oc⟩ := ⟨tz, [], st _ _ upd_same, trivial⟩
theorem at1 {H1 : Hp} {t t1 L : Addr} {o : HO} {x k ph : Str} {ad rm oc : Option Str} (z1 : Tz H1 t1 [.str x, .str k]) (nL : H1 L = none) (st : Same (upd H1 L (.lst [.ref t1])) (upd (upd H1 L (.lst [.ref t1])) t o)) (tz : Tz (upd (upd H1 L (.lst [.ref t1])) t o) t [.ref L, .str ph, optV ad, optV rm, optV oc]) :
    At (upd (upd H1 L (.lst [.ref t1])) t o) t L ⟨[(x, k)], ph, ad, rm, oc⟩ := ⟨tz, [t1], st _ _ upd_same, (z1.same (same_upd nL)).same st, trivial⟩
theorem at2 {H1 : Hp} {t t1 t2 L : Addr} {o : HO} {x k x2 k2 ph : Str} {ad rm oc : Option Str} (z1 : Tz H1 t1 [.str x, .str k]) (z2 : Tz H1 t2 [.str x2, .str k2]) (nL : H1 L = none) (st : Same (upd H1 L (.lst [.ref t1, .ref t2])) (upd (upd H1 L (.lst [.ref t1, .ref t2])) t o))
    (tz : Tz (upd (upd H1 L (.lst [.ref t1, .ref t2])) t o) t [.ref L, .str ph, optV ad, optV rm, optV oc]) :
    At (upd (upd H1 L (.lst [.ref t1, .ref t2])) t o) t L ⟨[(x, k), (x2, k2)], ph, ad, rm, oc⟩ := ⟨tz, [t1, t2], st _ _ upd_same, (z1.same (same_upd nL)).same st, (z2.same (same_upd nL)).same st, trivial⟩
theorem none_of {H H1 : Hp} {L : Addr} (s : Same H H1) (n : H1 L = none) : H L = none := by
  cases z : H L with
  | none => rfl
  | some o =>
    rw [s _ _ z] at n
    cases n
section
variable {P : Program} {w : World} {K : PySem.W.Frag} {mg : Str → Option Value} {base : Heap} {H : Hp}
/-- a host of a relink -/
structure On (H : Hp) (ra pa : Addr) (xs : List Str) (c j : Nat) : Prop where
  ra : Tz H ra [.ref pa, .int (c : Int)]
  pa : Tz H pa (xs.map V.str)
  l3 : 3 ≤ xs.length
  cl : c + 2 ≤ xs.length
  jl : j < xs.length
theorem On.same {H H' : Hp} {ra pa : Addr} {xs : List Str} {c j : Nat} (h : On H ra pa xs c j) (s : Same H H') : On H' ra pa xs c j := ⟨h.ra.same s, h.pa.same s, h.l3, h.cl, h.jl⟩
def spStep (g : List Str → Nat → Nat → Res) (pre : List Str → Nat → Nat → Prop) : Sp := fun vs H Q _ => ∃ (ra pa : Addr) (xs : List Str) (c j : Nat), vs = [.ref ra, .int (j : Int)] ∧ On H ra pa xs c j ∧ pre xs c j ∧
  ∀ H' t L, Same H H' → H L = none → At H' t L (g xs c j) → Q (.ref t) H'
theorem at_pred {xs : List Str} {j : Nat} (h : j < xs.length) (j0 : j ≠ 0) : atI (xs.map V.str) ((j : Int) - 1) = some (.str (xs.getD (j - 1) "")) := by
  rw [show (j : Int) - 1 = ((j - 1 : Nat) : Int) by omega]
  exact at_nat (i := j - 1) (by omega)
theorem at_succ {xs : List Str} {j : Nat} (h : j + 1 < xs.length) : atI (xs.map V.str) ((j : Int) + 1) = some (.str (xs.getD (j + 1) "")) := by
  rw [show (j : Int) + 1 = ((j + 1 : Nat) : Int) by omega]
  exact at_nat (i := j + 1) h
/-! the link that is cut behind a host -/
def spBehind : Sp := fun vs H Q _ => ∃ (ra pa : Addr) (xs : List Str) (c j : Nat), vs = [.ref ra, .int (j : Int)] ∧ On H ra pa xs c j ∧ Q (optV (cutB xs c j)) H
theorem ok_behind {f : Addr} {fd : FuncData} (F : Fun K "link_cut_behind" "link_cut_behind" s_link_cut_behind f fd) (Y : Bn mg) : FnOk P w K mg base CX0 1 f fd ["relink", "at"] spBehind := by
  refine F.ok sc_link_cut_behind (fun vs H Q E h => ?_) (fun cdv A outer s H vs Q E hr h => ?_)
  · obtain ⟨ra, pa, xs, c, j, rfl, _⟩ := h
    rfl
  · obtain ⟨ra, pa, xs, c, j, rfl, on, q⟩ := h
    refine ⟨_, (pss_cons (ps_asg (pv 0) (pg_tup (by rfl) (pgs_cons (pg_name (i := 2) sc_link_cut_behind.nd rfl (Or.inl rfl)) (pgs_cons (pg_name (i := 3) sc_link_cut_behind.nd rfl (Or.inl rfl)) pgs_nil))))
 (pss_one (ps_ret (pe_ifExp (pt_cmpR op_eq (pv 1) (pe_op op_add (pv 3) pe_int) (nomark _)) (pe_ix ix_tup (pv 2) (pv 3) (fun _ _ => rfl)) pe_non)))), ?_⟩
    have cl := on.cl
    refine ⟨_, rfl, ra, _, rfl, on.ra.sq, rfl, _, _, rfl, _, _, rfl, rfl, ?_⟩
    refine ⟨_, rfl, _, rfl, _, _, rfl, rfl, rfl, _, rfl, ite2 (fun c1 => ?_) (fun c1 => ?_)⟩
    · have c1' : j = c + 1 := by
        have z := of_decide_eq_true c1
        injection z with z
        omega
      refine ⟨_, rfl, _, rfl, pa, _, _, _, rfl, rfl, on.pa.sq, at_nat (i := c) (by omega), ?_⟩
      unfold cutB at q
      rw [if_pos c1'] at q
      exact q
    · have c1' : ¬ j = c + 1 := fun z => c1 (decide_eq_true (by rw [z]; rfl))
      unfold cutB at q
      rw [if_neg c1'] at q
      exact q
theorem ok_askS {f : Addr} {fd : FuncData} (F : Fun K "ask_step" "ask_step" s_ask_step f fd) (Y : Bn mg) (G_link_cut_behind : Fk P w K mg base CX0 1 "link_cut_behind" ["relink", "at"] spBehind) :
    FnOk P w K mg base CX0 2 f fd ["relink", "at"] (spStep askS fun _ _ j => j ≠ 0) := by
  refine F.ok sc_ask_step (fun vs H Q E h => ?_) (fun cdv A outer s H vs Q E hr h => ?_)
  · obtain ⟨ra, pa, xs, c, j, rfl, _⟩ := h
    rfl
  · obtain ⟨ra, pa, xs, c, j, rfl, on, j0, q⟩ := h
    refine ⟨_, (pss_cons (ps_set (i := 2) sc_ask_step.nd rfl (.inl rfl) (pe_ix ix_tup (pv 0) pe_int (fun _ _ => rfl)))
 (pss_cons (ps_if (pt_cmpR op_lt (pv 1) (pe_op op_sub (pe_callB call_len_seq (by rfl) Y.len PySem.boot_len (pa_cons (pv 2) pa_nil)) pe_int) (nomark _))
 (pss_one (ps_ret (pe_tupZ (pa_cons (pe_lst (pa_cons (pe_tupZ (pa_cons (pe_ix ix_tup (pv 2) (pe_op op_add (pv 1) pe_int) (fun _ _ => rfl)) (pa_cons pe_str pa_nil))) pa_nil)) (pa_cons pe_str (pa_cons pe_non (pa_cons pe_non (pa_cons pe_non pa_nil))))))))
 pss_nil)
 (pss_one (ps_ret (pe_tupZ (pa_cons (pe_lst (pa_cons (pe_tupZ (pa_cons (pe_ix ix_tup (pv 2) (pe_op op_sub (pv 1) pe_int) (fun _ _ => rfl)) (pa_cons pe_str pa_nil))) pa_nil)) (pa_cons pe_str (pa_cons (pe_ix ix_tup (pv 2) pe_int (fun _ _ => rfl)) (pa_cons (pe_callF G_link_cut_behind (hr.mono (by decide)) (by rfl) pass0 (pa_cons (pv 0) (pa_cons (pv 1) pa_nil))) (pa_cons pe_non pa_nil)))))))))), ?_⟩
    have l3 := on.l3
    have jl := on.jl
    unfold askS at q
    refine ⟨_, rfl, ra, _, 0, _, rfl, rfl, on.ra.sq, atI_nat (j := 0) rfl, ?_⟩
    refine ⟨_, rfl, _, rfl, pa, _, rfl, .inr on.pa.sq, _, _, rfl, rfl, _, _, rfl, rfl, _, rfl, ?_⟩
    rw [List.length_map]
    refine ite2 (fun c1 => ?_) (fun c1 => ?_)
    · have c1' : j + 1 < xs.length := by
        have := of_decide_eq_true c1
        omega
      rw [if_pos c1'] at q
      refine ⟨_, rfl, _, rfl, _, _, rfl, rfl, pa, _, _, _, rfl, rfl, on.pa.sq, at_succ c1', (by show 2 ≤ sizeLine; decide), fun t1 o1 n1 s1 z1 => ?_⟩
      refine ⟨(by show 1 ≤ sizeLine; decide), fun L nL => ⟨(by show 5 ≤ sizeLine; decide), fun t o nt st tz => ?_⟩⟩
      exact q _ t L ((s1.trans (same_upd nL)).trans st) (none_of s1 nL) (at1 (ad := none) (rm := none) (oc := none) z1 nL st tz)
    · have c1' : ¬ j + 1 < xs.length := fun z => c1 (decide_eq_true (by omega))
      rw [if_neg c1'] at q
      refine ⟨_, rfl, _, rfl, _, _, rfl, rfl, pa, _, _, _, rfl, rfl, on.pa.sq, at_pred jl j0, (by show 2 ≤ sizeLine; decide), fun t1 o1 n1 s1 z1 => ?_⟩
      refine ⟨(by show 1 ≤ sizeLine; decide), fun L nL => ?_⟩
      have on2 := (on.same s1).same (same_upd (o := .lst [.ref t1]) nL)
      refine ⟨_, rfl, pa, _, 0, _, rfl, rfl, on2.pa.sq, at_nat (i := 0) (by omega), _, rfl, _, rfl, ra, pa, xs, c, j, rfl, on2, ?_⟩
      refine ⟨(by show 5 ≤ sizeLine; decide), fun t o nt st tz => ?_⟩
      exact q _ t L ((s1.trans (same_upd nL)).trans st) (none_of s1 nL) (at1 (ad := some _) (oc := none) z1 nL st tz)
theorem ok_noS {f : Addr} {fd : FuncData} (F : Fun K "no_step" "no_step" s_no_step f fd) (Y : Bn mg) : FnOk P w K mg base CX0 1 f fd ["relink", "at"] (spStep noS fun _ _ _ => True) := by
  refine F.ok sc_no_step (fun vs H Q E h => ?_) (fun cdv A outer s H vs Q E hr h => ?_)
  · obtain ⟨ra, pa, xs, c, j, rfl, _⟩ := h
    rfl
  · obtain ⟨ra, pa, xs, c, j, rfl, on, _, q⟩ := h
    refine ⟨_, (pss_cons (ps_if (pt_cmpR op_eq (pv 1) pe_int (nomark _))
 (pss_one (ps_ret (pe_tupZ (pa_cons (pe_lst pa_nil) (pa_cons pe_str (pa_cons pe_non (pa_cons pe_non (pa_cons pe_str pa_nil))))))))
 pss_nil)
 (pss_one (ps_ret (pe_tupZ (pa_cons (pe_lst (pa_cons (pe_tupZ (pa_cons (pe_ix ix_tup (pe_ix ix_tup (pv 0) pe_int (fun _ _ => rfl)) (pe_op op_sub (pv 1) pe_int) (fun _ _ => rfl)) (pa_cons pe_str pa_nil))) pa_nil)) (pa_cons pe_str (pa_cons pe_non (pa_cons pe_non (pa_cons pe_non pa_nil))))))))), ?_⟩
    have jl := on.jl
    unfold noS at q
    refine ⟨_, rfl, rfl, _, rfl, ite2 (fun c1 => ?_) (fun c1 => ?_)⟩
    · have c1' : j = 0 := by
        have z := of_decide_eq_true c1
        injection z with z
        omega
      rw [if_pos c1'] at q
      refine ⟨Nat.zero_le _, fun L nL => ⟨(by show 5 ≤ sizeLine; decide), fun t o nt st tz => ?_⟩⟩
      exact q _ t L ((same_upd nL).trans st) nL (at0 (ad := none) (rm := none) (oc := some _) (Same.refl _) nL st tz)
    · have c1' : ¬ j = 0 := fun z => c1 (decide_eq_true (by rw [z]; rfl))
      rw [if_neg c1'] at q
      refine ⟨_, rfl, ra, _, 0, _, rfl, rfl, on.ra.sq, atI_nat (j := 0) rfl, _, rfl, _, _, rfl, rfl, pa, _, _, _, rfl, rfl, on.pa.sq, at_pred jl c1', (by show 2 ≤ sizeLine; decide), fun t1 o1 n1 s1 z1 => ?_⟩
      refine ⟨(by show 1 ≤ sizeLine; decide), fun L nL => ⟨(by show 5 ≤ sizeLine; decide), fun t o nt st tz => ?_⟩⟩
      exact q _ t L ((s1.trans (same_upd nL)).trans st) (none_of s1 nL) (at1 (ad := none) (rm := none) (oc := none) z1 nL st tz)
theorem ok_backS {f : Addr} {fd : FuncData} (F : Fun K "back_step" "back_step" s_back_step f fd) (Y : Bn mg) : FnOk P w K mg base CX0 1 f fd ["relink", "at"] (spStep backS fun _ _ _ => True) := by
  refine F.ok sc_back_step (fun vs H Q E h => ?_) (fun cdv A outer s H vs Q E hr h => ?_)
  · obtain ⟨ra, pa, xs, c, j, rfl, _⟩ := h
    rfl
  · obtain ⟨ra, pa, xs, c, j, rfl, on, _, q⟩ := h
    refine ⟨_, (pss_cons (ps_if (pt_cmpR op_eq (pv 1) pe_int (nomark _))
 (pss_one (ps_ret (pe_tupZ (pa_cons (pe_lst pa_nil) (pa_cons pe_str (pa_cons pe_non (pa_cons pe_non (pa_cons pe_str pa_nil))))))))
 pss_nil)
 (pss_one (ps_ret (pe_tupZ (pa_cons (pe_lst (pa_cons (pe_tupZ (pa_cons (pe_ix ix_tup (pe_ix ix_tup (pv 0) pe_int (fun _ _ => rfl)) (pe_op op_sub (pv 1) pe_int) (fun _ _ => rfl)) (pa_cons pe_str pa_nil))) pa_nil)) (pa_cons pe_str (pa_cons pe_non (pa_cons pe_non (pa_cons pe_non pa_nil))))))))), ?_⟩
    have jl := on.jl
    unfold backS at q
    refine ⟨_, rfl, rfl, _, rfl, ite2 (fun c1 => ?_) (fun c1 => ?_)⟩
    · have c1' : j = 0 := by
        have z := of_decide_eq_true c1
        injection z with z
        omega
      rw [if_pos c1'] at q
      refine ⟨Nat.zero_le _, fun L nL => ⟨(by show 5 ≤ sizeLine; decide), fun t o nt st tz => ?_⟩⟩
      exact q _ t L ((same_upd nL).trans st) nL (at0 (ad := none) (rm := none) (oc := some _) (Same.refl _) nL st tz)
    · have c1' : ¬ j = 0 := fun z => c1 (decide_eq_true (by rw [z]; rfl))
      rw [if_neg c1'] at q
      refine ⟨_, rfl, ra, _, 0, _, rfl, rfl, on.ra.sq, atI_nat (j := 0) rfl, _, rfl, _, _, rfl, rfl, pa, _, _, _, rfl, rfl, on.pa.sq, at_pred jl c1', (by show 2 ≤ sizeLine; decide), fun t1 o1 n1 s1 z1 => ?_⟩
      refine ⟨(by show 1 ≤ sizeLine; decide), fun L nL => ⟨(by show 5 ≤ sizeLine; decide), fun t o nt st tz => ?_⟩⟩
      exact q _ t L ((s1.trans (same_upd nL)).trans st) (none_of s1 nL) (at1 (ad := none) (rm := none) (oc := none) z1 nL st tz)
def spFirst : Sp := fun vs H Q _ => ∃ (ra pa : Addr) (xs : List Str) (c j : Nat), vs = [.ref ra] ∧ On H ra pa xs c j ∧
  ∀ H' t L, Same H H' → H L = none → At H' t L (firstS xs c) → Q (.ref t) H'
theorem ok_firstS {f : Addr} {fd : FuncData} (F : Fun K "first_yes_step" "first_yes_step" s_first_yes_step f fd) (Y : Bn mg) : FnOk P w K mg base CX0 1 f fd ["relink"] spFirst := by
  refine F.ok sc_first_yes_step (fun vs H Q E h => ?_) (fun cdv A outer s H vs Q E hr h => ?_)
  · obtain ⟨ra, pa, xs, c, j, rfl, _⟩ := h
    rfl
  · obtain ⟨ra, pa, xs, c, j, rfl, on, q⟩ := h
    refine ⟨_, (pss_cons (ps_asg (pv 0) (pg_tup (by rfl) (pgs_cons (pg_name (i := 1) sc_first_yes_step.nd rfl (Or.inl rfl)) (pgs_cons (pg_name (i := 2) sc_first_yes_step.nd rfl (Or.inl rfl)) pgs_nil))))
 (pss_cons (ps_set (i := 3) sc_first_yes_step.nd rfl (.inl rfl) (pe_lst (pa_cons (pe_tupZ (pa_cons (pe_ix ix_tup (pv 1) pe_int (fun _ _ => rfl)) (pa_cons pe_str pa_nil))) pa_nil)))
 (pss_cons (ps_if (pt_cmpR op_eq (pv 2) pe_int (nomark _))
 (pss_one (ps_ret (pe_tupZ (pa_cons (pv 3) (pa_cons pe_str (pa_cons (pe_ix ix_tup (pv 1) (pe_un un_neg pe_int) (fun _ _ => rfl)) (pa_cons (pe_ix ix_tup (pv 1) pe_int (fun _ _ => rfl)) (pa_cons pe_str pa_nil))))))))
 pss_nil)
 (pss_one (ps_ret (pe_tupZ (pa_cons (pv 3) (pa_cons pe_str (pa_cons (pe_ix ix_tup (pv 1) (pe_un un_neg pe_int) (fun _ _ => rfl)) (pa_cons pe_non (pa_cons pe_non pa_nil))))))))))), ?_⟩
    have l3 := on.l3
    unfold firstS at q
    refine ⟨_, rfl, ra, _, rfl, on.ra.sq, rfl, _, _, rfl, _, _, rfl, rfl, ?_⟩
    refine ⟨_, rfl, pa, _, 1, _, rfl, rfl, on.pa.sq, at_nat (i := 1) (by omega), (by show 2 ≤ sizeLine; decide), fun t1 o1 n1 s1 z1 => ?_⟩
    refine ⟨(by show 1 ≤ sizeLine; decide), fun L nL => ?_⟩
    have on2 := (on.same s1).same (same_upd (o := .lst [.ref t1]) nL)
    refine ⟨_, rfl, rfl, _, rfl, ite2 (fun c1 => ?_) (fun c1 => ?_)⟩
    · have c1' : c = 0 := by
        have z := of_decide_eq_true c1
        injection z with z
        omega
      rw [if_pos c1'] at q
      refine ⟨_, rfl, _, rfl, 1, rfl, pa, _, -1, _, rfl, rfl, on2.pa.sq, at_end (by omega), _, rfl, pa, _, 1, _, rfl, rfl, on2.pa.sq, at_nat (i := 1) (by omega), (by show 5 ≤ sizeLine; decide), fun t o nt st tz => ?_⟩
      exact q _ t L ((s1.trans (same_upd nL)).trans st) (none_of s1 nL) (at1 (ad := some _) (rm := some _) (oc := some _) z1 nL st tz)
    · have c1' : ¬ c = 0 := fun z => c1 (decide_eq_true (by rw [z]; rfl))
      rw [if_neg c1'] at q
      refine ⟨_, rfl, _, rfl, 1, rfl, pa, _, -1, _, rfl, rfl, on2.pa.sq, at_end (by omega), (by show 5 ≤ sizeLine; decide), fun t o nt st tz => ?_⟩
      exact q _ t L ((s1.trans (same_upd nL)).trans st) (none_of s1 nL) (at1 (ad := some _) (rm := none) (oc := none) z1 nL st tz)
theorem ok_yesS {f : Addr} {fd : FuncData} (F : Fun K "yes_step" "yes_step" s_yes_step f fd) (Y : Bn mg) (G_first_yes_step : Fk P w K mg base CX0 1 "first_yes_step" ["relink"] spFirst) (G_link_cut_behind : Fk P w K mg base CX0 1 "link_cut_behind" ["relink", "at"] spBehind) :
    FnOk P w K mg base CX0 2 f fd ["relink", "at"] (spStep yesS fun _ _ _ => True) := by
  refine F.ok sc_yes_step (fun vs H Q E h => ?_) (fun cdv A outer s H vs Q E hr h => ?_)
  · obtain ⟨ra, pa, xs, c, j, rfl, _⟩ := h
    rfl
  · obtain ⟨ra, pa, xs, c, j, rfl, on, _, q⟩ := h
    refine ⟨_, (pss_cons (ps_asg (pv 0) (pg_tup (by rfl) (pgs_cons (pg_name (i := 2) sc_yes_step.nd rfl (Or.inl rfl)) (pgs_cons (pg_name (i := 3) sc_yes_step.nd rfl (Or.inl rfl)) pgs_nil))))
 (pss_cons (ps_if (pt_cmpR op_eq (pv 1) pe_int (nomark _))
 (pss_one (ps_ret (pe_callF G_first_yes_step (hr.mono (by decide)) (by rfl) pass0 (pa_cons (pv 0) pa_nil))))
 pss_nil)
 (pss_cons (ps_set (i := 4) sc_yes_step.nd rfl (.inl rfl) (pe_ifExp (pt_cmpR op_le (pv 1) (pv 3) (nomark _)) pe_str pe_str))
 (pss_one (ps_ret (pe_tupZ (pa_cons (pe_lst (pa_cons (pe_tupZ (pa_cons (pe_ix ix_tup (pv 2) (pe_op op_sub (pv 1) pe_int) (fun _ _ => rfl)) (pa_cons pe_str pa_nil))) pa_nil)) (pa_cons (pv 4) (pa_cons pe_non (pa_cons (pe_callF G_link_cut_behind (hr.mono (by decide)) (by rfl) pass0 (pa_cons (pv 0) (pa_cons (pv 1) pa_nil))) (pa_cons pe_non pa_nil))))))))))), ?_⟩
    have l3 := on.l3
    have jl := on.jl
    unfold yesS at q
    refine ⟨_, rfl, ra, _, rfl, on.ra.sq, rfl, _, _, rfl, _, _, rfl, rfl, ?_⟩
    refine ⟨_, rfl, rfl, _, rfl, ite2 (fun c1 => ?_) (fun c1 => ?_)⟩
    · have c1' : j = 0 := by
        have z := of_decide_eq_true c1
        injection z with z
        omega
      rw [if_pos c1'] at q
      exact ⟨_, rfl, ra, pa, xs, c, j, rfl, on, q⟩
    · have c1' : ¬ j = 0 := fun z => c1 (decide_eq_true (by rw [z]; rfl))
      rw [if_neg c1'] at q
      refine ⟨_, rfl, _, rfl, _, _, rfl, rfl, _, rfl, ite2 (fun c2 => ?_) (fun c2 => ?_)⟩
      · have c2' : j ≤ c := by
          have := of_decide_eq_true c2
          omega
        rw [if_pos c2'] at q
        refine ⟨_, rfl, _, rfl, _, _, rfl, rfl, pa, _, _, _, rfl, rfl, on.pa.sq, at_pred jl c1', (by show 2 ≤ sizeLine; decide), fun t1 o1 n1 s1 z1 => ?_⟩
        refine ⟨(by show 1 ≤ sizeLine; decide), fun L nL => ?_⟩
        have on2 := (on.same s1).same (same_upd (o := .lst [.ref t1]) nL)
        refine ⟨_, rfl, _, rfl, _, rfl, ra, pa, xs, c, j, rfl, on2, (by show 5 ≤ sizeLine; decide), fun t o nt st tz => ?_⟩
        exact q _ t L ((s1.trans (same_upd nL)).trans st) (none_of s1 nL) (at1 (ad := none) (oc := none) z1 nL st tz)
      · have c2' : ¬ j ≤ c := fun z => c2 (decide_eq_true (by omega))
        rw [if_neg c2'] at q
        refine ⟨_, rfl, _, rfl, _, _, rfl, rfl, pa, _, _, _, rfl, rfl, on.pa.sq, at_pred jl c1', (by show 2 ≤ sizeLine; decide), fun t1 o1 n1 s1 z1 => ?_⟩
        refine ⟨(by show 1 ≤ sizeLine; decide), fun L nL => ?_⟩
        have on2 := (on.same s1).same (same_upd (o := .lst [.ref t1]) nL)
        refine ⟨_, rfl, _, rfl, _, rfl, ra, pa, xs, c, j, rfl, on2, (by show 5 ≤ sizeLine; decide), fun t o nt st tz => ?_⟩
        exact q _ t L ((s1.trans (same_upd nL)).trans st) (none_of s1 nL) (at1 (ad := none) (oc := none) z1 nL st tz)
theorem ok_goS {f : Addr} {fd : FuncData} (F : Fun K "go_step" "go_step" s_go_step f fd) (Y : Bn mg) : FnOk P w K mg base CX0 1 f fd ["relink", "at"] (spStep goS fun _ _ j => j ≠ 0) := by
  refine F.ok sc_go_step (fun vs H Q E h => ?_) (fun cdv A outer s H vs Q E hr h => ?_)
  · obtain ⟨ra, pa, xs, c, j, rfl, _⟩ := h
    rfl
  · obtain ⟨ra, pa, xs, c, j, rfl, on, j0, q⟩ := h
    refine ⟨_, (pss_cons (ps_asg (pv 0) (pg_tup (by rfl) (pgs_cons (pg_name (i := 2) sc_go_step.nd rfl (Or.inl rfl)) (pgs_cons (pg_name (i := 3) sc_go_step.nd rfl (Or.inl rfl)) pgs_nil))))
 (pss_cons (ps_if (pt_cmpR op_lt (pv 1) (pv 3) (nomark _))
 (pss_one (ps_ret (pe_tupZ (pa_cons (pe_lst (pa_cons (pe_tupZ (pa_cons (pe_ix ix_tup (pv 2) (pe_op op_add (pv 1) pe_int) (fun _ _ => rfl)) (pa_cons pe_str pa_nil))) pa_nil)) (pa_cons pe_str (pa_cons pe_non (pa_cons pe_non (pa_cons pe_non pa_nil))))))))
 pss_nil)
 (pss_cons (ps_if (pt_cmpR op_eq (pv 1) (pv 3) (nomark _))
 (pss_one (ps_ret (pe_tupZ (pa_cons (pe_lst (pa_cons (pe_tupZ (pa_cons (pe_ix ix_tup (pv 2) (pe_op op_add (pv 1) pe_int) (fun _ _ => rfl)) (pa_cons pe_str pa_nil))) (pa_cons (pe_tupZ (pa_cons (pe_ix ix_tup (pv 2) (pe_op op_sub (pv 1) pe_int) (fun _ _ => rfl)) (pa_cons pe_str pa_nil))) pa_nil))) (pa_cons pe_str (pa_cons pe_non (pa_cons (pe_ix ix_tup (pv 2) (pe_op op_add (pv 1) pe_int) (fun _ _ => rfl)) (pa_cons pe_non pa_nil))))))))
 pss_nil)
 (pss_cons (ps_set (i := 4) sc_go_step.nd rfl (.inl rfl) (pe_ifExp (pt_cmpR op_lt (pv 1) (pe_op op_sub (pe_callB call_len_seq (by rfl) Y.len PySem.boot_len (pa_cons (pv 2) pa_nil)) pe_int) (nomark _)) (pe_lst (pa_cons (pe_tupZ (pa_cons (pe_ix ix_tup (pv 2) (pe_op op_add (pv 1) pe_int) (fun _ _ => rfl)) (pa_cons pe_str pa_nil))) pa_nil)) (pe_lst pa_nil)))
 (pss_one (ps_ret (pe_tupZ (pa_cons (pv 4) (pa_cons pe_str (pa_cons pe_non (pa_cons pe_non (pa_cons pe_non pa_nil)))))))))))), ?_⟩
    have l3 := on.l3
    have jl := on.jl
    have cl := on.cl
    unfold goS at q
    refine ⟨_, rfl, ra, _, rfl, on.ra.sq, rfl, _, _, rfl, _, _, rfl, rfl, ?_⟩
    refine ⟨_, rfl, _, rfl, _, _, rfl, rfl, _, rfl, ite2 (fun c1 => ?_) (fun c1 => ?_)⟩
    · have c1' : j < c := by
        have := of_decide_eq_true c1
        omega
      rw [if_pos c1'] at q
      refine ⟨_, rfl, _, rfl, _, _, rfl, rfl, pa, _, _, _, rfl, rfl, on.pa.sq, at_succ (by omega), (by show 2 ≤ sizeLine; decide), fun t1 o1 n1 s1 z1 => ?_⟩
      refine ⟨(by show 1 ≤ sizeLine; decide), fun L nL => ⟨(by show 5 ≤ sizeLine; decide), fun t o nt st tz => ?_⟩⟩
      exact q _ t L ((s1.trans (same_upd nL)).trans st) (none_of s1 nL) (at1 (ad := none) (rm := none) (oc := none) z1 nL st tz)
    have c1' : ¬ j < c := fun z => c1 (decide_eq_true (by omega))
    rw [if_neg c1'] at q
    refine ⟨_, rfl, _, rfl, rfl, _, rfl, ite2 (fun c2 => ?_) (fun c2 => ?_)⟩
    · have c2' : j = c := by
        have z := of_decide_eq_true c2
        injection z with z
        omega
      rw [if_pos c2'] at q
      refine ⟨_, rfl, _, rfl, _, _, rfl, rfl, pa, _, _, _, rfl, rfl, on.pa.sq, at_succ (by omega), (by show 2 ≤ sizeLine; decide), fun t1 o1 n1 s1 z1 => ?_⟩
      refine ⟨_, rfl, _, rfl, _, _, rfl, rfl, pa, _, _, _, rfl, rfl, (on.pa.same s1).sq, at_pred jl j0, (by show 2 ≤ sizeLine; decide), fun t2 o2 n2 s2 z2 => ?_⟩
      refine ⟨(by show 2 ≤ sizeLine; decide), fun L nL => ?_⟩
      have on2 := ((on.same s1).same s2).same (same_upd (o := .lst [.ref t1, .ref t2]) nL)
      refine ⟨_, rfl, _, rfl, _, _, rfl, rfl, pa, _, _, _, rfl, rfl, on2.pa.sq, at_succ (by omega), (by show 5 ≤ sizeLine; decide), fun t o nt st tz => ?_⟩
      exact q _ t L (((s1.trans s2).trans (same_upd nL)).trans st) (none_of (s1.trans s2) nL) (at2 (ad := none) (rm := some _) (oc := none) (z1.same s2) z2 nL st tz)
    have c2' : ¬ j = c := fun z => c2 (decide_eq_true (by rw [z]))
    rw [if_neg c2'] at q
    refine ⟨_, rfl, _, rfl, pa, _, rfl, .inr on.pa.sq, _, _, rfl, rfl, _, _, rfl, rfl, _, rfl, ?_⟩
    rw [List.length_map]
    refine ite2 (fun c3 => ?_) (fun c3 => ?_)
    · have c3' : j + 1 < xs.length := by
        have := of_decide_eq_true c3
        omega
      rw [if_pos c3'] at q
      refine ⟨_, rfl, _, rfl, _, _, rfl, rfl, pa, _, _, _, rfl, rfl, on.pa.sq, at_succ c3', (by show 2 ≤ sizeLine; decide), fun t1 o1 n1 s1 z1 => ?_⟩
      refine ⟨(by show 1 ≤ sizeLine; decide), fun L nL => ⟨_, rfl, (by show 5 ≤ sizeLine; decide), fun t o nt st tz => ?_⟩⟩
      exact q _ t L ((s1.trans (same_upd nL)).trans st) (none_of s1 nL) (at1 (ad := none) (rm := none) (oc := none) z1 nL st tz)
    · have c3' : ¬ j + 1 < xs.length := fun z => c3 (decide_eq_true (by omega))
      rw [if_neg c3'] at q
      refine ⟨Nat.zero_le _, fun L nL => ⟨_, rfl, (by show 5 ≤ sizeLine; decide), fun t o nt st tz => ?_⟩⟩
      exact q _ t L ((same_upd nL).trans st) nL (at0 (ad := none) (rm := none) (oc := none) (Same.refl _) nL st tz)
end
end My

namespace My
open PySem PySem.Spec PyProof.Rows L2 Gy Xl Xs Xt
/-! ### the one sorted arrangement of some texts -/
def ins (x : Str) : List Str → List Str
  | [] => [x]
  | y :: ys => if y.cps.toList < x.cps.toList then y :: ins x ys else x :: y :: ys
def srt : List Str → List Str
  | [] => []
  | x :: xs => ins x (srt xs)
theorem ins_perm (x : Str) : ∀ ys, (ins x ys).Perm (x :: ys)
  | [] => List.Perm.refl _
  | y :: ys => by
    unfold ins
    split
    · exact ((ins_perm x ys).cons y).trans (List.Perm.swap x y ys)
    · exact List.Perm.refl _
theorem srt_perm : ∀ xs, (srt xs).Perm xs
  | [] => List.Perm.refl _
  | x :: xs => (ins_perm x (srt xs)).trans ((srt_perm xs).cons x)
theorem ins_pw {x : Str} : ∀ {ys : List Str}, ys.Pairwise leS → (ins x ys).Pairwise leS
  | [], _ => List.pairwise_singleton _ _
  | y :: ys, h => by
    obtain ⟨h1, h2⟩ := List.pairwise_cons.mp h
    unfold ins
    split
    · rename_i c
      refine List.Pairwise.cons (fun z hz => ?_) (ins_pw h2)
      rcases List.mem_cons.mp ((ins_perm x ys).mem_iff.mp hz) with rfl | hz
      · exact List.le_of_lt c
      · exact h1 z hz
    · rename_i c
      have c' : leS x y := List.not_lt.mp c
      refine List.Pairwise.cons (fun z hz => ?_) h
      rcases List.mem_cons.mp hz with rfl | hz
      · exact c'
      · exact List.le_trans c' (h1 z hz)
theorem srt_pw : ∀ xs, (srt xs).Pairwise leS
  | [] => List.Pairwise.nil
  | x :: xs => ins_pw (srt_pw xs)
theorem srt_of {ys xs : List Str} (p : ys.Perm xs) (s : sortedS ys = true) : ys = srt xs := sort_one (p.trans (srt_perm xs).symm) (sorted_pw s) (srt_pw xs)
theorem srt_congr {xs ys : List Str} (p : xs.Perm ys) : srt xs = srt ys := sort_one ((srt_perm xs).trans (p.trans (srt_perm ys).symm)) (srt_pw xs) (srt_pw ys)
theorem srt_srt (xs : List Str) : srt (srt xs) = srt xs := srt_congr (srt_perm xs)
theorem srt_mem {xs : List Str} {x : Str} : x ∈ srt xs ↔ x ∈ xs := (srt_perm xs).mem_iff
theorem srt_len (xs : List Str) : (srt xs).length = xs.length := (srt_perm xs).length_eq
theorem srt_nd {xs : List Str} : (srt xs).Nodup ↔ xs.Nodup := (srt_perm xs).nodup_iff
end My

namespace My
open PySem PySem.Spec PyProof.Rows L2 Gy Xl Xs Xt Xo Xp
/-! ### whom a host waits for; its next host; whether it can join -/
def awt (st : HS) : Option Str := match st.jn with
  | none => none
  | some (xs, _) => if st.nm = xs.getD 0 "" then some (xs.getD (xs.length - 1) "") else if st.nm = xs.getD (xs.length - 1) "" then some (xs.getD 0 "") else none
/-- a relink with a host on its path -/
structure OnR (H : Hp) (ra pa : Addr) (xs : List Str) (c j : Nat) (nm : Str) : Prop where
  on : On H ra pa xs c j
  ir : isRel (reld xs c) = true
  sm : sml (reld xs c) = true
  ps : posn xs (.str nm) = some j
  nn : Nm nm
theorem OnR.same {H H' : Hp} {ra pa : Addr} {xs : List Str} {c j : Nat} {nm : Str} (h : OnR H ra pa xs c j nm) (s : Same H H') : OnR H' ra pa xs c j nm := ⟨h.on.same s, h.ir, h.sm, h.ps, h.nn⟩
theorem rel_nd {xs : List Str} {c : Nat} (ir : isRel (reld xs c) = true) : xs.Nodup := by
  obtain ⟨xs', c', e, _, nd, _⟩ := rel_parts ir
  obtain ⟨rfl, rfl⟩ := reld_inj e
  exact nd
theorem posn_is {xs : List Str} {nm : Str} {j : Nat} (nd : xs.Nodup) (h : posn xs (.str nm) = some j) : xs.getD j "" = nm := by
  have m : nm ∈ xs := by
    cases em : decide (nm ∈ xs) with
    | true => exact of_decide_eq_true em
    | false =>
      exfalso
      revert h
      unfold posn
      simp [of_decide_eq_false em]
  obtain ⟨i, hi, e⟩ := List.getElem_of_mem m
  have z := posn_at nd hi
  rw [show xs.getD i "" = nm by rw [List.getD_eq_getElem?_getD, List.getElem?_eq_getElem hi, e]; rfl] at z
  rw [h] at z
  obtain rfl : j = i := by injection z
  rw [List.getD_eq_getElem?_getD, List.getElem?_eq_getElem hi, e]
  rfl
theorem getD_inj {xs : List Str} {i j : Nat} (nd : xs.Nodup) (hi : i < xs.length) (hj : j < xs.length) (e : xs.getD i "" = xs.getD j "") : i = j := by
  have a := posn_at nd hi
  have b := posn_at nd hj
  rw [e, b] at a
  injection a with a
  exact a.symm
section
variable {P : Program} {w : World} {K : PySem.W.Frag} {mg : Str → Option Value} {base : Heap} {H : Hp} {C CR CU : Addr}
def spWait (K : PySem.W.Frag) (C : Addr) : Sp := fun vs H Q _ => ∃ (h : Addr) (st : HS) (ad : HA), vs = [.ref h] ∧ Hst K C H h st ad ∧ (∀ xs c, st.jn = some (xs, c) → 0 < xs.length) ∧ Q (optV (awt st)) H
theorem ok_wait {f : Addr} {fd : FuncData} (F : Fun K "waits_for" "Host.waits_for" m_waits_for f fd) (T : Ch K C) : FnOk P w K mg base CX0 1 f fd ["self"] (spWait K C) := by
  refine F.ok scm_waits_for (fun vs H Q E h => ?_) (fun cdv A outer s H vs Q E hr h => ?_)
  · obtain ⟨h, st, ad, rfl, _⟩ := h
    rfl
  · obtain ⟨h, st, ad, rfl, x, l0, q⟩ := h
    refine ⟨_, (pss_cons (ps_if (pt_cmpR op_isN (pe_fld (pv 0) rfl) pe_non (nomark _))
 (pss_one (ps_ret pe_non))
 pss_nil)
 (pss_cons (ps_set (i := 1) scm_waits_for.nd rfl (.inl rfl) (pe_ix ix_tup (pe_fld (pv 0) rfl) pe_int (fun _ _ => rfl)))
 (pss_cons (ps_if (pt_cmpR op_eq (pe_fld (pv 0) rfl) (pe_ix ix_tup (pv 1) pe_int (fun _ _ => rfl)) (nomark _))
 (pss_one (ps_ret (pe_ix ix_tup (pv 1) (pe_un un_neg pe_int) (fun _ _ => rfl))))
 pss_nil)
 (pss_one (ps_ret (pe_ifExp (pt_cmpR op_eq (pe_fld (pv 0) rfl) (pe_ix ix_tup (pv 1) (pe_un un_neg pe_int) (fun _ _ => rfl)) (nomark _)) (pe_ix ix_tup (pv 1) pe_int (fun _ _ => rfl)) pe_non)))))), ?_⟩
    refine ⟨_, rfl, h, C, ad.dx, _, _, rfl, x.at_, T.cl, T.n4, rfl, ?_⟩
    refine ⟨rfl, _, rfl, ?_⟩
    dsimp only
    unfold awt at q
    have jj := x.jn
    cases ej : st.jn with
    | none =>
      rw [ej] at jj q
      have e : ad.jv = .non := jj
      rw [e]
      exact iteT q
    | some p =>
      obtain ⟨xs, c⟩ := p
      have lx := l0 xs c ej
      rw [ej] at jj q
      obtain ⟨t, pa, e, za, zb⟩ := jj
      replace za := za.same (fz_same H)
      replace zb := zb.same (fz_same H)
      dsimp only at q
      rw [decide_eq_false (show ¬ ad.jv = V.non from fun z => by rw [e] at z; cases z)]
      refine iteF ⟨_, rfl, h, C, ad.dx, _, _, rfl, x.at_, T.cl, T.n4, rfl, t, _, 0, .ref pa, e, rfl, za.sq, atI_nat (j := 0) rfl, ?_⟩
      refine ⟨_, rfl, h, C, ad.dx, _, _, rfl, x.at_, T.cl, T.n1, rfl, _, rfl, pa, _, 0, _, rfl, rfl, zb.sq, at_nat (i := 0) lx, rfl, _, rfl, ite2 (fun c1 => ?_) (fun c1 => ?_)⟩
      · have c1' : st.nm = xs.getD 0 "" := by
          have z := of_decide_eq_true c1
          injection z
        rw [if_pos c1'] at q
        exact ⟨_, rfl, 1, rfl, pa, _, -1, _, rfl, rfl, zb.sq, at_end lx, q⟩
      have c1' : ¬ st.nm = xs.getD 0 "" := fun z => c1 (decide_eq_true (by rw [z]))
      rw [if_neg c1'] at q
      refine ⟨_, rfl, h, C, ad.dx, _, _, rfl, x.at_, T.cl, T.n1, rfl, _, rfl, 1, rfl, pa, _, -1, _, rfl, rfl, zb.sq, at_end lx, rfl, _, rfl, ite2 (fun c2 => ?_) (fun c2 => ?_)⟩
      · have c2' : st.nm = xs.getD (xs.length - 1) "" := by
          have z := of_decide_eq_true c2
          injection z
        rw [if_pos c2'] at q
        exact ⟨_, rfl, pa, _, 0, _, rfl, rfl, zb.sq, at_nat (i := 0) lx, q⟩
      · have c2' : ¬ st.nm = xs.getD (xs.length - 1) "" := fun z => c2 (decide_eq_true (by rw [z]))
        rw [if_neg c2'] at q
        exact q
def spPart (K : PySem.W.Frag) (C : Addr) : Sp := fun vs H Q _ => ∃ (h : Addr) (o : Str) (st : HS) (ad : HA), vs = [.ref h, .str o] ∧ Hst K C H h st ad ∧ st.lk.length < 60 ∧
  ∀ H' Lk', Off h H H' → FzK H H' → H Lk' = none → Hst K C H' h { st with lk := st.lk.filter (· ≠ o) } { ad with Lk := Lk' } → Q .non H'
theorem ok_part {f : Addr} {fd : FuncData} (F : Fun K "part_from" "Host.part_from" m_part_from f fd) (T : Ch K C) : FnOk P w K mg base CX0 1 f fd ["self", "other"] (spPart K C) := by
  refine F.ok scm_part_from (fun vs H Q E h => ?_) (fun cdv A outer s H vs Q E hr h => ?_)
  · obtain ⟨h, o, st, ad, rfl, _⟩ := h
    rfl
  · obtain ⟨h, o, st, ad, rfl, x, few, q⟩ := h
    refine ⟨_, (pss_one (ps_fld (pv 0) (pe_lc (own := [("link", 2)]) (g := gName 2) (tt := tTest (tOp rNe (tVar 2) (tVar 1))) rfl scm_part_from.nd (pi_list (pe_fld (pv 0) rfl)) (blkOk_by (N := ["self", "other", "link"]) (sc := defScope m_part_from) (by decide +kernel)) (fun _ _ _ _ _ => (pg_name (i := 2) scm_part_from.nd rfl (Or.inl rfl))) (fun _ _ _ _ _ => (pts_one (pt_cmpR op_ne (pv 2) (pv 1) (nomark _)))) (fun _ _ _ _ _ => (pv 2))) rfl)), ?_⟩
    refine ⟨_, rfl, h, C, ad.dx, _, _, rfl, x.at_, T.cl, T.n2, rfl, ad.Lk, rfl, ⟨_, SqL.of x.lk⟩, fun D nD => ?_⟩
    refine lc_it (walk_list (K := K) (a := ad.Lk) (xs := st.lk.map V.str)) (fun i H' => Same H H' ∧ H' D = some (.lst (((st.lk.take i).filter (· ≠ o)).map V.str)))
      ⟨same_upd nD, upd_same⟩ (fun i H' _ hI => SqL.of (hI.1 _ _ x.lk)) ?_ ?_
    · rintro i y H4 H5 hi ⟨s4, hD⟩ ⟨rfl, hy⟩
      rw [List.getElem?_map] at hy
      obtain ⟨z, hz, rfl⟩ := Option.map_eq_some_iff.mp hy
      refine ⟨rfl, _, rfl, _, rfl, rfl, _, rfl, ite2 (fun c => ?_) (fun c => ?_)⟩
      · have c' : z ≠ o := fun w => by
          rw [w] at c
          simp at c
        refine ⟨_, rfl, _, hD, ?_, same_upd2 s4 nD, ?_⟩
        · rw [List.length_map]
          refine small200 (Nat.le_trans (List.length_filter_le _ _) ?_)
          rw [List.length_take]
          omega
        · rw [upd_same, List.take_add_one, hz, List.filter_append, List.map_append]
          show some (HO.lst _) = some (HO.lst (_ ++ (List.filter _ [z]).map V.str))
          rw [List.filter_cons_of_pos (by simpa using c')]
          rfl
      · have c' : z = o := by
          cases w : decide (z = o) with
          | true => exact of_decide_eq_true w
          | false =>
            exfalso
            apply c
            rw [decide_eq_false (fun e => of_decide_eq_false w (by injection e))]
            rfl
        refine ⟨s4, ?_⟩
        rw [hD, List.take_add_one, hz, List.filter_append]
        show some (HO.lst _) = some (HO.lst ((_ ++ List.filter _ [z]).map V.str))
        rw [List.filter_cons_of_neg (by simpa using c'), List.filter_nil, List.append_nil]
    · rintro H4 ⟨s4, hD⟩
      rw [List.length_map, List.take_of_length_le (Nat.le_refl _)] at hD
      have at4 := s4 _ _ x.at_
      refine ⟨_, rfl, h, C, ad.dx, _, rfl, at4, T.cl, T.n2, (by show 7 < 1000; decide), ?_⟩
      have ph : D ≠ h := ne_of hD at4 (fun z => nomatch z)
      have of : Off h H (upd H4 h (.ins C ad.dx (putF "linked" (.ref D) [("own_name", .str st.nm), ("linked", .ref ad.Lk), ("logged", .ref ad.Ll), ("joined", ad.jv), ("stage", .str st.sg), ("queued", .ref ad.Lq), ("finished", .ref ad.La)]))) := fun b u e n => by
        rw [upd_ne n]
        exact s4 b u e
      have fk := FzK.off x.at_ of
      obtain ⟨k1, k2, k3, k4, k5⟩ := x.keep of
      obtain ⟨_, el, _⟩ := x.lg
      obtain ⟨_, eq, _⟩ := x.qu
      obtain ⟨_, ea, _⟩ := x.an
      exact q _ D of fk nD ⟨upd_same, (upd_ne ph).trans hD, k2, k3, k4, k5, (ne_of_none el nD).symm, (ne_of_none eq nD).symm, (ne_of_none ea nD).symm, x.sep.2.2.2⟩
def spNext (K : PySem.W.Frag) (C : Addr) : Sp := fun vs H Q _ => ∃ (h ra pa : Addr) (xs : List Str) (c j : Nat) (st : HS) (ad : HA), vs = [.ref h, .ref ra] ∧ Hst K C H h st ad ∧ OnR H ra pa xs c j st.nm ∧ j + 1 < xs.length ∧ ∀ H', Same H H' → Q (.str (xs.getD (j + 1) "")) H'
theorem ok_next {f : Addr} {fd : FuncData} (F : Fun K "next_host" "Host.next_host" m_next_host f fd) (T : Ch K C) (G_position : Fk P w K mg base (L2.CX P w) 6 "position" ["relink", "host"] (spQh K CR CU fun j _ => .int (j : Int))) : FnOk P w K mg base CX0 7 f fd ["self", "relink"] (spNext K C) := by
  refine F.ok scm_next_host (fun vs H Q E h => ?_) (fun cdv A outer s H vs Q E hr h => ?_)
  · obtain ⟨h, ra, pa, xs, c, j, st, ad, rfl, _⟩ := h
    rfl
  · obtain ⟨h, ra, pa, xs, c, j, st, ad, rfl, x, on, jl, q⟩ := h
    refine ⟨_, (pss_one (ps_ret (pe_ix ix_tup (pe_ix ix_tup (pv 1) pe_int (fun _ _ => rfl)) (pe_op op_add (pe_callF (E := fun _ _ _ => False) G_position (hr.mono (by decide)) (by rfl) passN (pa_cons (pv 1) (pa_cons (pe_fld (pv 0) rfl) pa_nil))) pe_int) (fun _ _ => rfl)))), ?_⟩
    have ra_ := on.on.ra
    refine ⟨_, rfl, ra, _, 0, _, rfl, rfl, ra_.sq, atI_nat (j := 0) rfl, ?_⟩
    refine ⟨_, rfl, _, rfl, h, C, ad.dx, _, _, rfl, x.at_, T.cl, T.n1, rfl, .ref ra, .str st.nm, reld xs c, .str st.nm, rfl, dn_reld on.on.ra on.on.pa, on.sm, .str _, (a0_nm on.nn).sm, (fun z => absurd (on.ir.symm.trans z) (by decide)), fun xs' c' ed _ => ?_⟩
    obtain ⟨rfl, rfl⟩ := reld_inj ed
    refine ⟨fun j' hj H1 s1 => ?_, fun z => absurd (on.ps.symm.trans z) (fun z => nomatch z)⟩
    obtain rfl : j = j' := by
      rw [on.ps] at hj
      injection hj
    refine ⟨_, _, rfl, rfl, pa, _, _, _, rfl, rfl, (on.on.pa.same s1).sq, at_succ jl, q _ s1⟩
/-- whether a free host takes part -/
def canJ (st : HS) (xs : List Str) (j : Nat) : Bool := st.jn.isNone && (decide (j + 1 = xs.length) || decide (xs.getD (j + 1) "" ∈ st.lk))
def spCanJ (K : PySem.W.Frag) (C : Addr) : Sp := fun vs H Q _ => ∃ (h ra pa : Addr) (xs : List Str) (c j : Nat) (st : HS) (ad : HA), vs = [.ref h, .ref ra] ∧ Hst K C H h st ad ∧ OnR H ra pa xs c j st.nm ∧ ∀ H', Same H H' → Q (.bl (canJ st xs j)) H'
theorem ok_canJ {f : Addr} {fd : FuncData} (F : Fun K "can_join" "Host.can_join" m_can_join f fd) (T : Ch K C) (M_next_host : Fm P w K mg base CX0 7 C "next_host" ["self", "relink"] (spNext K C)) : FnOk P w K mg base CX0 8 f fd ["self", "relink"] (spCanJ K C) := by
  obtain ⟨_, _, MM_next_host, MB_next_host, MF_next_host⟩ := M_next_host.ex
  refine F.ok scm_can_join (fun vs H Q E h => ?_) (fun cdv A outer s H vs Q E hr h => ?_)
  · obtain ⟨h, ra, pa, xs, c, j, st, ad, rfl, _⟩ := h
    rfl
  · obtain ⟨h, ra, pa, xs, c, j, st, ad, rfl, x, on, q⟩ := h
    refine ⟨_, (pss_cons (ps_if (pt_cmpR op_notN (pe_fld (pv 0) rfl) pe_non (nomark _))
 (pss_one (ps_ret pe_bl))
 pss_nil)
 (pss_one (ps_ret (pe_or (pe_cmpR op_eq (pe_fld (pv 0) rfl) (pe_ix ix_tup (pe_ix ix_tup (pv 1) pe_int (fun _ _ => rfl)) (pe_un un_neg pe_int) (fun _ _ => rfl)) (nomark _)) (pe_one (pe_cmpR op_in_seq (pe_meth (pv 0) T.cl MM_next_host MF_next_host (hr.mono (by decide)) MB_next_host .nil pass0 (pa_cons (pv 1) pa_nil)) (pe_fld (pv 0) rfl) rfl)))))), ?_⟩
    have lx : 0 < xs.length := by have := on.on.l3; omega
    unfold canJ at q
    refine ⟨_, rfl, h, C, ad.dx, _, _, rfl, x.at_, T.cl, T.n4, rfl, ?_⟩
    refine ⟨rfl, _, rfl, ?_⟩
    dsimp only
    have jj := x.jn
    cases ej : st.jn with
    | some p =>
      have ne : ad.jv ≠ .non := fun z => by
        rw [ej, z] at jj
        obtain ⟨xs, c⟩ := p
        obtain ⟨t, pa, e, _⟩ := jj
        cases e
      rw [decide_eq_false ne]
      rw [ej] at q
      exact iteT (q _ (Same.refl _))
    | none =>
      rw [ej] at jj q
      have e : ad.jv = .non := jj
      rw [e]
      refine iteF ?_
      refine ⟨_, rfl, h, C, ad.dx, _, _, rfl, x.at_, T.cl, T.n1, rfl, _, rfl, ra, _, 0, _, rfl, rfl, on.on.ra.sq, atI_nat (j := 0) rfl, 1, rfl, pa, _, -1, _, rfl, rfl, on.on.pa.sq, at_end lx, rfl, _, rfl, ite2 (fun c1 => ?_) (fun c1 => ?_)⟩
      · have c1' : st.nm = xs.getD (xs.length - 1) "" := by
          have z := of_decide_eq_true c1
          injection z
        have jl : j = xs.length - 1 := getD_inj (rel_nd on.ir) on.on.jl (by omega) ((posn_is (rel_nd on.ir) on.ps).trans c1')
        have z := q _ (Same.refl _)
        rw [decide_eq_true (show j + 1 = xs.length by omega)] at z
        exact z
      · have jl : j + 1 < xs.length := by
          have := on.on.jl
          have : ¬ j + 1 = xs.length := fun z => c1 (decide_eq_true (by
            rw [← posn_is (rel_nd on.ir) on.ps, show xs.length - 1 = j by omega]))
          omega
        refine ⟨_, rfl, h, ad.dx, _, rfl, x.at_, (by rfl), _, rfl, h, ra, pa, xs, c, j, st, ad, rfl, x, on, jl, fun H1 s1 => ?_⟩
        have x1 := x.same s1
        refine ⟨_, rfl, h, C, ad.dx, _, _, rfl, x1.at_, T.cl, T.n2, rfl, ad.Lk, _, rfl, .inl (SqL.of x1.lk), rfl, flat_strs _, ?_⟩
        have z := q _ s1
        rw [decide_eq_false (show ¬ j + 1 = xs.length by omega)] at z
        show Q (.bl (inV _ _)) _
        rw [inV_strs]
        exact z
end
end My

namespace My
open PySem PySem.Spec PyProof.Rows L2 Gy Xl Xs Xt Xo Xp
section
variable {P : Program} {w : World} {K : PySem.W.Frag} {mg : Str → Option Value} {base : Heap} {H H1 H2 : Hp} {C CR CU CS : Addr}
structure OffA (h : Addr) (ad : HA) (H H' : Hp) : Prop where
  st : ∀ y o, H y = some o → y ≠ h → y ≠ ad.Ll → y ≠ ad.Lq → y ≠ ad.La → H' y = some o
  dm : ∀ y, H' y = none → H y = none
structure NewA (H : Hp) (ad ad' : HA) : Prop where
  lk : ad'.Lk = ad.Lk ∨ H ad'.Lk = none
  ll : ad'.Ll = ad.Ll ∨ H ad'.Ll = none
  lq : ad'.Lq = ad.Lq ∨ H ad'.Lq = none
  la : ad'.La = ad.La ∨ H ad'.La = none
variable {h : Addr} {st st1 st2 : HS} {ad ad1 ad2 : HA}
theorem OffA.refl : OffA h ad H H := ⟨fun _ _ e _ _ _ _ => e, fun _ e => e⟩
theorem NewA.refl : NewA H ad ad := ⟨.inl rfl, .inl rfl, .inl rfl, .inl rfl⟩
theorem OffA.same (s : Same H H1) : OffA h ad H H1 := ⟨fun _ _ e _ _ _ _ => s _ _ e, fun _ n => same_no s n⟩
theorem OffA.trans (a : OffA h ad H H1) (n : NewA H ad ad1) (b : OffA h ad1 H1 H2) : OffA h ad H H2 := by
  have k : ∀ {y p q : Addr} {o : HO}, H y = some o → y ≠ p → (q = p ∨ H q = none) → y ≠ q := fun {y p q o} e m z w => by
    rcases z with z | z
    · exact m (w.trans z)
    · rw [← w, e] at z
      cases z
  exact ⟨fun y o e n1 n2 n3 n4 => b.st y o (a.st y o e n1 n2 n3 n4) n1 (k e n2 n.ll) (k e n3 n.lq) (k e n4 n.la), fun y e => a.dm y (b.dm y e)⟩
theorem NewA.trans (a : OffA h ad H H1) (n : NewA H ad ad1) (m : NewA H1 ad1 ad2) : NewA H ad ad2 := by
  have k : ∀ {p q r : Addr}, (q = p ∨ H q = none) → (r = q ∨ H1 r = none) → (r = p ∨ H r = none) := fun {p q r} z w => by
    rcases w with w | w
    · rw [w]
      exact z
    · exact .inr (a.dm _ w)
  exact ⟨k n.lk m.lk, k n.ll m.ll, k n.lq m.lq, k n.la m.la⟩
theorem OffA.of {st' : HS} {ad' : HA} (o : Off h H H1) (x : Hst K C H1 h st' ad') : OffA h ad H H1 := ⟨fun y u e n _ _ _ => o y u e n, fun y n => o.none x.at_ n⟩
theorem _root_.Xt.Tz.fzk {t : Addr} {xs : List V} (z : Tz H t xs) (f : FzK H H1) : Tz H1 t xs := by
  obtain ⟨o, e, c⟩ := z
  exact ⟨o, f _ _ _ e, c⟩
theorem te_use {te : TE} {σ : L2.St} {H : Hp} {Q : VK} {v : V} (h2 : Q v H) (h1 : ∀ Q' : VK, Q' v H → te σ H Q') : te σ H Q := h1 Q h2
theorem sq_by {A rest : TS} {D : Ends} {σ : L2.St} {H : Hp} (S : Hp → Prop) (h1 : ∀ R : Ends, (∀ H', S H' → R.nx σ H') → A R σ H) (h2 : ∀ H', S H' → rest D σ H') : tSeq A rest D σ H := h1 _ h2
theorem jv_is (x : Hst K C H h st ad) : decide (ad.jv = V.non) = st.jn.isNone := by
  have jj := x.jn
  cases ej : st.jn with
  | none =>
    rw [ej] at jj
    have e : ad.jv = .non := jj
    rw [e]
    rfl
  | some p =>
    rw [ej] at jj
    obtain ⟨xs, c⟩ := p
    obtain ⟨t, pa, e, _⟩ := jj
    rw [e]
    rfl
theorem Hst.que {lv : List V} {v : V} {d : PyData} (x : Hst K C H h st ad) (e : H ad.Lq = some (.lst lv)) (dl : Dns K (fz H) lv st.qu) (dn : Dn K (fz H) v d) : Hst K C (upd H ad.Lq (.lst (lv ++ [v]))) h { st with qu := st.qu ++ [d] } ad := by
  have fk := fz_keep ((FzK.refl H).upd (w := .lst (lv ++ [v])) e (fun _ _ z => nomatch z))
  obtain ⟨v2, a2, b2⟩ := x.an
  obtain ⟨v3, a3, b3⟩ := x.lg
  obtain ⟨s1, s2, s3, s4, s5, s6⟩ := x.sep
  exact ⟨(upd_ne (ne_of x.at_ e (fun z => nomatch z))).trans x.at_, (upd_ne s2).trans x.lk, ⟨v3, (upd_ne s4).trans a3, b3.same fk⟩, x.jn.same fk, ⟨_, upd_same, dns_app (dl.same fk) (.cons (dn.same fk) .nil)⟩, ⟨v2, (upd_ne s6.symm).trans a2, b2.same fk⟩, x.sep⟩
structure Ac (K : PySem.W.Frag) (C : Addr) (h : Addr) (ad : HA) (H H' : Hp) (st' : HS) (ad' : HA) : Prop where
  off : OffA h ad H H'
  nw : NewA H ad ad'
  fk : FzK H H'
  hx : Hst K C H' h st' ad'
theorem Ac.trans (a : Ac K C h ad H H1 st1 ad1) (b : Ac K C h ad1 H1 H2 st2 ad2) : Ac K C h ad H H2 st2 ad2 := ⟨a.off.trans a.nw b.off, NewA.trans a.off a.nw b.nw, a.fk.trans b.fk, b.hx⟩
theorem Ac.same (a : Ac K C h ad H H1 st1 ad1) (s : Same H1 H2) : Ac K C h ad H H2 st1 ad1 := a.trans ⟨OffA.same s, NewA.refl, FzK.of s, a.hx.same s⟩
theorem Ac.refl (x : Hst K C H h st ad) : Ac K C h ad H H st ad := ⟨OffA.refl, NewA.refl, FzK.refl H, x⟩
theorem Ac.back (s : Same H H1) (b : Ac K C h ad H1 H2 st2 ad2) : Ac K C h ad H H2 st2 ad2 := ⟨(OffA.same s).trans NewA.refl b.off, NewA.trans (h := h) (OffA.same s) NewA.refl b.nw, (FzK.of s).trans b.fk, b.hx⟩
theorem Ac.keep (a : Ac K C h ad H H1 st1 ad1) {L : Addr} {o : HO} (e : H L = some o) (n : L ≠ h ∧ L ≠ ad.Ll ∧ L ≠ ad.Lq ∧ L ≠ ad.La) : H1 L = some o := a.off.st _ _ e n.1 n.2.1 n.2.2.1 n.2.2.2
theorem Hst.nes (x : Hst K C H h st ad) {L : Addr} (n : H L = none) : L ≠ h ∧ L ≠ ad.Ll ∧ L ≠ ad.Lq ∧ L ≠ ad.La := by
  obtain ⟨_, a, _⟩ := x.lg
  obtain ⟨_, b, _⟩ := x.qu
  obtain ⟨_, c, _⟩ := x.an
  exact ⟨(ne_of_none x.at_ n).symm, (ne_of_none a n).symm, (ne_of_none b n).symm, (ne_of_none c n).symm⟩
end
end My

namespace My
open PySem PySem.Spec PyProof.Rows L2 Gy Xl Xs Xt Xo Xp
section
variable {P : Program} {w : World} {K : PySem.W.Frag} {mg : Str → Option Value} {base : Heap} {H : Hp} {C CR CU CW CB CD CN CI : Addr}
/-- a method that may be asked without its last two arguments -/
structure FmD (P : Program) (w : World) (K : PySem.W.Frag) (mg : Str → Option Value) (base : Heap) (CX : CXT) (k : Nat) (C : Addr) (nm : Str) (ps : List Str) (dvs : List V) (sp : Sp) : Prop where
  ex : ∃ (f : Addr) (fd : FuncData) (ds : List Value), Meth K C nm f ∧ Vals dvs ds ∧ Binds K fd ps ds ∧ FnOk P w K mg base CX k f fd ps sp
def spWrite (K : PySem.W.Frag) (C CW : Addr) : Sp := fun vs H Q E => ∃ (h : Addr) (v : V) (st : HS) (ad : HA), vs = [.ref h, v] ∧ Kd K H v ∧ Hst K C H h st ad ∧ st.lk.length ≤ 20 ∧ sortedS st.lk = true ∧ st.lg.length ≤ 1000 ∧ JnOk st ∧ Nm st.nm ∧ (textOf v WSG 12 = false → Ro E CW "value" v H) ∧
  ∀ x, v = .str x → textOf v WSG 12 = true → ∀ H' L us, (∀ y o, H y = some o → y ≠ ad.Ll → H' y = some o) → Hst K C H' h { st with lg := st.lg ++ [logD st.nm x] } ad → H L = none → H' L = some (.lst us) → Dns K (fz H') us ((outs st none 0).map (sendD st.nm x)) → Q (.ref L) H'
theorem ok_write {f : Addr} {fd : FuncData} (F : Fun K "write" "Host.write" m_write f fd) (Y : Bn mg) (T : Ch K C) (R : Rz P w K mg base "InvalidWord" "value" CW) (G_is_word : Fk P w K mg base CX0 2 "is_word" ["value"] (spWord K)) (M_laf : FmD P w K mg base CX0 9 C "log_and_forward" ["self", "writer", "word", "source", "bit"] [.non, .int 0] (spLAF K C)) : FnOk P w K mg base (L2.CX P w) 10 f fd ["self", "word"] (spWrite K C CW) := by
  obtain ⟨fI, fdI, XI, GI, bI⟩ := R.ex
  obtain ⟨_, _, _, MM_laf, MV_laf, MB_laf, MF_laf⟩ := M_laf.ex
  refine F.okX scm_write (fun vs H Q E h => ?_) (fun cdv A outer s H vs Q E hr h => ?_)
  · obtain ⟨h, v, st, ad, rfl, _⟩ := h
    rfl
  · obtain ⟨h, v, st, ad, rfl, kd, x, l20, srt, lgl, jok, nnm, q1, q2⟩ := h
    refine ⟨_, (pss_cons (ps_if (pt_not (pt_val (pe_callF G_is_word (hr.mono (by decide)) (by rfl) pass0 (pa_cons (pv 1) pa_nil))))
 (pss_one (ps_raise1 rfl (takes_of rfl rfl rfl rfl) XI R.ty GI (hr.mono (by decide)) bI (by rfl) R.gm (pa_cons (pv 1) pa_nil)))
 pss_nil)
 (pss_one (ps_ret (pe_meth (pv 0) T.cl MM_laf MF_laf (hr.mono (by decide)) MB_laf MV_laf pass0 (pa_cons (pe_fld (pv 0) rfl) (pa_cons (pv 1) pa_nil)))))), ?_⟩
    refine ⟨_, rfl, v, rfl, kd, fun H1 s1 => ⟨_, rfl, ?_⟩⟩
    cases t1 : textOf v WSG 12 with
    | false => exact iteT ⟨_, rfl, _, rfl, fun ex nd => q1 t1 _ ex (s1.trans (same_upd nd)) upd_same⟩
    | true =>
    obtain ⟨z, rfl⟩ := text_str' t1
    have x1 := x.same s1
    refine iteF ⟨_, rfl, h, ad.dx, _, rfl, x1.at_, (by rfl), _, rfl, h, C, ad.dx, _, _, rfl, x1.at_, T.cl, T.n1, rfl, _, rfl, ?_⟩
    refine ⟨h, st.nm, z, none, 0, st, ad, rfl, x1, l20, srt, lgl, jok, nnm, fun H2 L us fr hx nL hL du => ?_⟩
    exact q2 z rfl t1 H2 L us (fun y o e n => fr _ _ (s1 _ _ e) n) hx (same_no s1 nL) hL du









end
end My

namespace My
open PySem PySem.Spec PyProof.Rows L2 Gy Xl Xs Xt Xo Xp
/-! ### a free host receives a message -/
def msgI (w x : Str) : PyData := .tuple [.str "message", .str w, .str x, .int 0]
def spNo : Sp := fun _ _ _ _ => False
/-- what a free host sends on -/
def spread (st : HS) (src : Option Str) (w x : Str) : List PyData := ((gls src st.lk).map fun g => (g, (0 : Int))).map (sendD w x)
theorem outs_free {st : HS} (h : st.jn = none) (src : Option Str) (b : Int) : outs st src b = (gls src st.lk).map fun g => (g, 0) := by
  unfold outs
  rw [h]
section
variable {P : Program} {w : World} {K : PySem.W.Frag} {mg : Str → Option Value} {base : Heap} {H H1 H2 : Hp} {C CR CU CS CN CI : Addr}
/-- a host that is free, and not too much of it -/
structure Free (st : HS) : Prop where
  jn : st.jn = none
  sg : st.sg = "free"
  lk : st.lk.length ≤ 20
  srt : sortedS st.lk = true
  lg : st.lg.length ≤ 1000
  nn : Nm st.nm
theorem Free.jok {st : HS} (f : Free st) : JnOk st := fun xs c e => by rw [f.jn] at e; cases e
def logged (st : HS) (w x : Str) : HS := { st with lg := st.lg ++ [logD w x] }
def spAccM (K : PySem.W.Frag) (C : Addr) : Sp := fun vs H Q E => ∃ (h ia : Addr) (s w x : Str) (st : HS) (ad : HA), vs = [.ref h, .str s, .ref ia] ∧ Hst K C H h st ad ∧ Tz H ia [.str "message", .str w, .str x, .int 0] ∧ Free st ∧
  ∀ H' L us, Ac K C h ad H H' (logged st w x) ad → H L = none → H' L = some (.lst us) → Dns K (fz H') us (spread st (some s) w x) → Q (.ref L) H'
theorem ac_log {h : Addr} {st : HS} {ad : HA} {w x : Str} (hx : Hst K C H h st ad) (fr : ∀ y o, H y = some o → y ≠ ad.Ll → H1 y = some o) (hx1 : Hst K C H1 h (logged st w x) ad) : Ac K C h ad H H1 (logged st w x) ad := by
  obtain ⟨_, el, _⟩ := hx.lg
  obtain ⟨_, el1, _⟩ := hx1.lg
  exact ⟨⟨fun y o e _ n _ _ => fr y o e n, fun y e => by
    cases z : H y with
    | none => rfl
    | some o =>
      by_cases c : y = ad.Ll
      · rw [c, el1] at e
        cases e
      · rw [fr y o z c] at e
        cases e⟩, NewA.refl, fun b o u e => fr b _ e (ne_of e el (fun z => nomatch z)), hx1⟩
theorem ok_accM {f : Addr} {fd : FuncData} (F : Fun K "accept" "Host.accept" m_accept f fd) (Y : Bn mg) (T : Ch K C) (M_waits_for : Fm P w K mg base CX0 1 C "waits_for" ["self"] (spWait K C)) (M_log_and_forward : Fm P w K mg base CX0 9 C "log_and_forward" ["self", "writer", "word", "source", "bit"] (spLAF K C))
    (M_accept_bye : Fm P w K mg base CX0 1 C "accept_bye" ["self", "source"] spNo) (M_can_join : Fm P w K mg base CX0 1 C "can_join" ["self", "relink"] spNo) (M_act : Fm P w K mg base CX0 1 C "act" ["self", "relink", "kind"] spNo) : FnOk P w K mg base CX0 10 f fd ["self", "source", "item"] (spAccM K C) := by
  obtain ⟨_, _, MM_waits_for, MB_waits_for, MF_waits_for⟩ := M_waits_for.ex
  obtain ⟨_, _, MM_log_and_forward, MB_log_and_forward, MF_log_and_forward⟩ := M_log_and_forward.ex
  obtain ⟨_, _, MM_accept_bye, MB_accept_bye, MF_accept_bye⟩ := M_accept_bye.ex
  obtain ⟨_, _, MM_can_join, MB_can_join, MF_can_join⟩ := M_can_join.ex
  obtain ⟨_, _, MM_act, MB_act, MF_act⟩ := M_act.ex
  refine F.ok scm_accept (fun vs H Q E h => ?_) (fun cdv A outer s H vs Q E hr h => ?_)
  · obtain ⟨h, ia, s, w, x, st, ad, rfl, _⟩ := h
    rfl
  · obtain ⟨h, ia, src, wr, wd, st, ad, rfl, hx, it, fr, q⟩ := h
    refine ⟨_, (pss_cons (ps_if (pt_cmpR op_eq (pe_meth0 (pv 0) T.cl MM_waits_for MF_waits_for (hr.mono (by decide)) MB_waits_for .nil pass0) (pv 1) (nomark _))
 (pss_cons (ps_expr (pe_bm PySem.F.plainAttrs_list PySem.F.slot_list_append PySem.F.type_list_append mt_append (pe_fld (pv 0) rfl) (pa_cons (pv 2) pa_nil)))
 (pss_one (ps_ret (pe_lst pa_nil))))
 pss_nil)
 (pss_cons (ps_if (pt_cmpR op_eq (pe_ix ix_tup (pv 2) pe_int (fun _ _ => rfl)) pe_str (nomark _))
 (pss_one (ps_ret (pe_meth (pv 0) T.cl MM_log_and_forward MF_log_and_forward (hr.mono (by decide)) MB_log_and_forward .nil pass0 (pa_cons (pe_ix ix_tup (pv 2) pe_int (fun _ _ => rfl)) (pa_cons (pe_ix ix_tup (pv 2) pe_int (fun _ _ => rfl)) (pa_cons (pv 1) (pa_cons (pe_ix ix_tup (pv 2) pe_int (fun _ _ => rfl)) pa_nil)))))))
 pss_nil)
 (pss_cons (ps_if (pt_cmpR op_eq (pe_ix ix_tup (pv 2) pe_int (fun _ _ => rfl)) pe_str (nomark _))
 (pss_one (ps_ret (pe_meth (pv 0) T.cl MM_accept_bye MF_accept_bye (hr.mono (by decide)) MB_accept_bye .nil pass0 (pa_cons (pv 1) pa_nil))))
 pss_nil)
 (pss_cons (ps_asg (pv 2) (pg_tup (by rfl) (pgs_cons (pg_name (i := 3) scm_accept.nd rfl (Or.inl rfl)) (pgs_cons (pg_name (i := 4) scm_accept.nd rfl (Or.inl rfl)) (pgs_cons (pg_name (i := 5) scm_accept.nd rfl (Or.inl rfl)) pgs_nil)))))
 (pss_cons (ps_if (PW.pt (pw_and (pt_cmpR op_eq (pv 3) pe_str (nomark _)) (pw_and1 (pt_not (pt_val (pe_meth (pv 0) T.cl MM_can_join MF_can_join (hr.mono (by decide)) MB_can_join .nil pass0 (pa_cons (pe_tupZ (pa_cons (pv 4) (pa_cons (pv 5) pa_nil))) pa_nil)))))))
 (pss_one (ps_ret (pe_lst (pa_cons (pe_tupZ (pa_cons (pv 1) (pa_cons (pe_tupZ (pa_cons pe_str (pa_cons (pv 4) (pa_cons (pv 5) pa_nil)))) pa_nil))) pa_nil))))
 pss_nil)
 (pss_one (ps_ret (pe_meth (pv 0) T.cl MM_act MF_act (hr.mono (by decide)) MB_act .nil pass0 (pa_cons (pe_tupZ (pa_cons (pv 4) (pa_cons (pv 5) pa_nil))) (pa_cons (pv 3) pa_nil)))))))))), ?_⟩
    have aw : awt st = none := by
      unfold awt
      rw [fr.jn]
    refine ⟨_, rfl, h, ad.dx, _, rfl, hx.at_, (by rfl), h, st, ad, rfl, hx, (fun xs c e => by rw [fr.jn] at e; cases e), _, rfl, (by rw [aw]; rfl), _, rfl, ?_⟩
    rw [aw]
    refine iteF ⟨_, rfl, ia, _, 0, _, rfl, rfl, it.sq, atI_nat (j := 0) rfl, rfl, _, rfl, iteT ?_⟩
    refine ⟨_, rfl, h, ad.dx, _, rfl, hx.at_, (by rfl), _, rfl, ia, _, 1, _, rfl, rfl, it.sq, atI_nat (j := 1) rfl, _, rfl, ia, _, 2, _, rfl, rfl, it.sq, atI_nat (j := 2) rfl, _, rfl, _, rfl, ia, _, 3, _, rfl, rfl, it.sq, atI_nat (j := 3) rfl, ?_⟩
    refine ⟨h, wr, wd, some src, 0, st, ad, rfl, hx, fr.lk, fr.srt, fr.lg, fr.jok, fr.nn, fun H1 L us frm hx1 nL eL du => ?_⟩
    rw [outs_free fr.jn] at du
    exact q H1 L us (ac_log hx frm hx1) nL eL du
theorem msg_item {w x : Str} (hw : Nm w) (hx : isWord (.str x) = true) : isItem (msgI w x) = true := by
  have e : isItem (msgI w x) = isMsg [.str w, .str x, .int 0] := by
    show (if ("message" : Str) = "message" then isMsg [.str w, .str x, .int 0] else if ("message" : Str) = "bye" then ([.str w, .str x, .int 0] : List PyData).isEmpty else decide (("message" : Str) ∈ KINDS) && isRel (.tuple [.str w, .str x, .int 0])) = _
    rw [if_pos rfl]
  rw [e]
  show (isHost (.str w) && (isWord (.str x) && isIdx 2 (.int 0))) = true
  rw [host_of hw, hx]
  rfl
theorem msg_sml {w x : Str} (hw : Nm w) (hx : x.length ≤ 20) : sml (msgI w x) = true := by
  show (decide (4 ≤ 14) && (decide (("message" : Str).length ≤ 20) && (decide (w.length ≤ 20) && (decide (x.length ≤ 20) && (true && true))))) = true
  rw [decide_eq_true (show w.length ≤ 20 by have := hw.2.1; omega), decide_eq_true hx]
  rfl
theorem dn_msg {ia : Addr} {w x : Str} (it : Tz H ia [.str "message", .str w, .str x, .int 0]) : Dn K H (.ref ia) (msgI w x) := .tup it (.cons (.str _) (.cons (.str _) (.cons (.str _) (.cons (.int _) .nil))))
/-- receive, of a message -/
def spRecvM (K : PySem.W.Frag) (C : Addr) : Sp := fun vs H Q E => ∃ (h ia : Addr) (s w x : Str) (st : HS) (ad : HA), vs = [.ref h, .str s, .ref ia] ∧ Nm s ∧ Nm w ∧ isWord (.str x) = true ∧ x.length ≤ 20 ∧ Hst K C H h st ad ∧ Tz H ia [.str "message", .str w, .str x, .int 0] ∧ Free st ∧
  ∀ H' L us, Ac K C h ad H H' (logged st w x) ad → H L = none → H' L = some (.lst us) → Dns K (fz H') us (spread st (some s) w x) → Q (.ref L) H'
theorem ok_recvM' {f : Addr} {fd : FuncData} (F : Fun K "receive" "Host.receive" m_receive f fd) (T : Ch K C) (R : Rz P w K mg base "InvalidName" "value" CN) (G_is_host_name : Fk P w K mg base CX0 2 "is_host_name" ["value"] (spHost K)) (G_check_item : Fk P w K mg base (L2.CX P w) 6 "check_item" ["value"] (spChkI K CI))
    (M_accept : Fm P w K mg base CX0 10 C "accept" ["self", "source", "item"] (spAccM K C)) : FnOk P w K mg base (L2.CX P w) 11 f fd ["self", "source", "item"] (spRecvM K C) := by
  obtain ⟨fI, fdI, XI, GI, bI⟩ := R.ex
  obtain ⟨_, _, MM_accept, MB_accept, MF_accept⟩ := M_accept.ex
  refine F.okX scm_receive (fun vs H Q E h => ?_) (fun cdv A outer s H vs Q E hr h => ?_)
  · obtain ⟨h, ia, s, w, x, st, ad, rfl, _⟩ := h
    rfl
  · obtain ⟨h, ia, src, wr, wd, st, ad, rfl, ns, nw, iw, l20, hx, it, fr, q⟩ := h
    refine ⟨_, (pss_cons (ps_if (pt_not (pt_val (pe_callF G_is_host_name (hr.mono (by decide)) (by rfl) pass0 (pa_cons (pv 1) pa_nil))))
 (pss_one (ps_raise1 rfl (takes_of rfl rfl rfl rfl) XI R.ty GI (hr.mono (by decide)) bI (by rfl) R.gm (pa_cons (pv 1) pa_nil)))
 pss_nil)
 (pss_cons (ps_expr (pe_callF G_check_item (hr.mono (by decide)) (by rfl) (passes_call (E := E) (takes_of rfl rfl rfl rfl) (fun _ _ _ _ h => h)) (pa_cons (pv 2) pa_nil)))
 (pss_one (ps_ret (pe_meth (pv 0) T.cl MM_accept MF_accept (hr.mono (by decide)) MB_accept .nil pass0 (pa_cons (pv 1) (pa_cons (pv 2) pa_nil))))))), ?_⟩
    refine ⟨_, rfl, _, rfl, .str src (le200 (by have := ns.2.1; omega)), fun H1 s1 => ⟨_, rfl, ?_⟩⟩
    rw [nm_txt ns]
    refine iteF ⟨_, rfl, _, _, rfl, dn_msg (it.same s1), msg_sml nw l20, fun _ H2 s2 => ?_, fun z => absurd ((msg_item nw iw).symm.trans z) (by decide)⟩
    have s02 := s1.trans s2
    refine ⟨_, rfl, h, ad.dx, _, rfl, (hx.same s02).at_, (by rfl), _, rfl, _, rfl, h, ia, src, wr, wd, st, ad, rfl, hx.same s02, it.same s02, fr, fun H' L us ac nL eL du => ?_⟩
    exact q _ L us (ac.back s02) (same_no s02 nL) eL du
end
end My

/-! d.update(e): both dicts with keys that are texts or ints. -/
namespace Xu
open PySem PySem.Spec PyProof.Rows L2 Gy Xt
section
variable {X : Cx}
def rUpd : V → List V → Hp → VK → Prop := fun x xs H Q => ∃ (a b : Addr) (kvs more : List (L2.Key × V)), x = .ref a ∧ xs = [.ref b] ∧ a ≠ b ∧ H a = some (.dK kvs) ∧ H b = some (.dK more) ∧ kvs.length + more.length ≤ sizeLine ∧ Q .non (upd H a (.dK (mergeK kvs more)))
theorem putK_le (kvs : List (L2.Key × V)) (k : L2.Key) (v : V) : (putK kvs k v).length ≤ kvs.length + 1 := length_putK kvs k v
theorem mergeK_le : ∀ (more kvs : List (L2.Key × V)), (mergeK kvs more).length ≤ kvs.length + more.length
  | [], kvs => Nat.le_refl _
  | p :: ps, kvs => by
    have a := mergeK_le ps (putK kvs p.1 p.2)
    have b := putK_le kvs p.1 p.2
    show (mergeK (putK kvs p.1 p.2) ps).length ≤ kvs.length + (ps.length + 1)
    omega
theorem mt_upd : MtR X "dict.update" rUpd := by
  intro pn s sl G x ys v us Q inv rx rys h
  obtain ⟨a, b, kvs, more, rfl, rfl, ne, ha, hb, lt, q⟩ := h
  cases rx
  obtain ⟨w1, rfl, y1⟩ := vals1 rys
  cases y1
  obtain ⟨z, hd, vs, rel, dd⟩ := dk_of inv.hok ha
  obtain ⟨z2, hd2, vs2, rel2, dd2⟩ := dk_of inv.hok hb
  have l1 := KV.length rel
  have l2 := KV.length rel2
  refine call_meetsIn PySem.F.slot_dict_update dd.typeIs PySem.F.entry_dict_update (PySem.F.args_dict_update_2 _ _) (meets_dict_update (mixKind X.prog X.w) a b ne hd2) ⟨vs, vs2, dd, dd2, (by rw [← l1, ← l2]; exact lt), fun h' dd' _ sb => ?_⟩
  have he : ∃ q, h'.get? a = some q := let ⟨q, _, _, hq, _⟩ := dd'; ⟨q, hq⟩
  exact ⟨.non, _, d_write (t' := s.toks) inv (by rw [ha]; exact True.intro) sb he (dk_new (Nat.le_trans (mergeK_le more kvs) lt) hd (KV.merge rel2 rel) dd'), rfl, q⟩
end
end Xu

namespace My
open PySem PySem.Spec PyProof.Rows L2 Gy Xl Xs Xt Xo Xp Xu
/-! ### the law's own model of a host -/
def mdl (st : HS) (am : HA) : List (L2.Key × V) := [(.inr "name", .str st.nm), (.inr "links", .ref am.Lk), (.inr "log", .ref am.Ll), (.inr "relink", am.jv), (.inr "phase", .str st.sg), (.inr "queue", .ref am.Lq), (.inr "answers", .ref am.La)]
theorem mv_name (st : HS) (am : HA) : valV (mdl st am) (.inr "name") = some (.str st.nm) := rfl
theorem mv_links (st : HS) (am : HA) : valV (mdl st am) (.inr "links") = some (.ref am.Lk) := by rfl
theorem mv_log (st : HS) (am : HA) : valV (mdl st am) (.inr "log") = some (.ref am.Ll) := by rfl
theorem mv_relink (st : HS) (am : HA) : valV (mdl st am) (.inr "relink") = some am.jv := by rfl
theorem mv_phase (st : HS) (am : HA) : valV (mdl st am) (.inr "phase") = some (.str st.sg) := by rfl
theorem mv_queue (st : HS) (am : HA) : valV (mdl st am) (.inr "queue") = some (.ref am.Lq) := by rfl
theorem mv_answers (st : HS) (am : HA) : valV (mdl st am) (.inr "answers") = some (.ref am.La) := by rfl
theorem mp_links (st : HS) (am : HA) (l : Addr) (ys : List Str) : putK (mdl st am) (.inr "links") (.ref l) = mdl { st with lk := ys } { am with Lk := l } := by rfl
theorem mp_relink (st : HS) (am : HA) (v : V) (j : Option (List Str × Nat)) : putK (mdl st am) (.inr "relink") v = mdl { st with jn := j } { am with jv := v } := by rfl
theorem mp_phase (st : HS) (am : HA) (x : Str) : putK (mdl st am) (.inr "phase") (.str x) = mdl { st with sg := x } am := by rfl
structure Mst (K : PySem.W.Frag) (H : Hp) (m : Addr) (st : HS) (am : HA) : Prop where
  at_ : H m = some (.dK (mdl st am))
  lk : H am.Lk = some (.lst (st.lk.map V.str))
  lg : ∃ vs, H am.Ll = some (.lst vs) ∧ Dns K (fz H) vs st.lg
  jn : Jnd (fz H) am.jv st.jn
  qu : ∃ vs, H am.Lq = some (.lst vs) ∧ Dns K (fz H) vs st.qu
  an : ∃ vs, H am.La = some (.lst vs) ∧ Dns K (fz H) vs st.an
  sep : am.Lk ≠ am.Ll ∧ am.Lk ≠ am.Lq ∧ am.Lk ≠ am.La ∧ am.Ll ≠ am.Lq ∧ am.Ll ≠ am.La ∧ am.Lq ≠ am.La
section
variable {P : Program} {w : World} {K : PySem.W.Frag} {mg : Str → Option Value} {base : Heap} {H H1 H2 : Hp} {C : Addr} {m : Addr} {st st1 st2 : HS} {am am1 am2 : HA}
theorem Mst.same (x : Mst K H m st am) (s : Same H H1) : Mst K H1 m st am := by
  obtain ⟨v1, a1, b1⟩ := x.lg
  obtain ⟨v2, a2, b2⟩ := x.qu
  obtain ⟨v3, a3, b3⟩ := x.an
  have f := fz_keep (FzK.of s)
  exact ⟨s _ _ x.at_, s _ _ x.lk, ⟨v1, s _ _ a1, b1.same f⟩, x.jn.same f, ⟨v2, s _ _ a2, b2.same f⟩, ⟨v3, s _ _ a3, b3.same f⟩, x.sep⟩
theorem ne_dk {a b : Addr} {xs : List V} {kvs : List (L2.Key × V)} (h1 : H a = some (.lst xs)) (h2 : H b = some (.dK kvs)) : a ≠ b := ne_of h1 h2 (fun z => nomatch z)
theorem FzK.offm {kvs : List (L2.Key × V)} (hh : H m = some (.dK kvs)) (o : Off m H H1) : FzK H H1 := fun b ob u e => o b _ e (ne_of e hh (fun z => nomatch z))
theorem Mst.keep (x : Mst K H m st am) (o : Off m H H1) : H1 am.Lk = some (.lst (st.lk.map V.str)) ∧ (∃ vs, H1 am.Ll = some (.lst vs) ∧ Dns K (fz H1) vs st.lg) ∧ Jnd (fz H1) am.jv st.jn ∧ (∃ vs, H1 am.Lq = some (.lst vs) ∧ Dns K (fz H1) vs st.qu) ∧ (∃ vs, H1 am.La = some (.lst vs) ∧ Dns K (fz H1) vs st.an) := by
  obtain ⟨v1, a1, b1⟩ := x.lg
  obtain ⟨v2, a2, b2⟩ := x.qu
  obtain ⟨v3, a3, b3⟩ := x.an
  have f := fz_keep (FzK.offm x.at_ o)
  exact ⟨o _ _ x.lk (ne_dk x.lk x.at_), ⟨v1, o _ _ a1 (ne_dk a1 x.at_), b1.same f⟩, x.jn.same f, ⟨v2, o _ _ a2 (ne_dk a2 x.at_), b2.same f⟩, ⟨v3, o _ _ a3 (ne_dk a3 x.at_), b3.same f⟩⟩
/-- where the changes of the model are -/
structure Am (K : PySem.W.Frag) (m : Addr) (am : HA) (H H' : Hp) (st' : HS) (am' : HA) : Prop where
  off : OffA m am H H'
  nw : NewA H am am'
  fk : FzK H H'
  hx : Mst K H' m st' am'
theorem Am.trans (a : Am K m am H H1 st1 am1) (b : Am K m am1 H1 H2 st2 am2) : Am K m am H H2 st2 am2 := ⟨a.off.trans a.nw b.off, NewA.trans a.off a.nw b.nw, a.fk.trans b.fk, b.hx⟩
theorem Am.same (a : Am K m am H H1 st1 am1) (s : Same H1 H2) : Am K m am H H2 st1 am1 := a.trans ⟨OffA.same s, NewA.refl, FzK.of s, a.hx.same s⟩
theorem Am.refl (x : Mst K H m st am) : Am K m am H H st am := ⟨OffA.refl, NewA.refl, FzK.refl H, x⟩
theorem Am.back (s : Same H H1) (b : Am K m am H1 H2 st2 am2) : Am K m am H H2 st2 am2 := ⟨(OffA.same s).trans NewA.refl b.off, NewA.trans (h := m) (OffA.same s) NewA.refl b.nw, (FzK.of s).trans b.fk, b.hx⟩
/-- the dict is written, its lists stand -/
theorem offm {kvs : List (L2.Key × V)} {u : HO} (h : H m = some (.dK kvs)) : OffA m am H (upd H m u) := ⟨fun y o e n _ _ _ => (upd_ne n).trans e, fun y n => by
  by_cases e : y = m
  · rw [e, upd_same] at n
    cases n
  · rw [upd_ne e] at n
    exact n⟩
theorem Mst.put (x : Mst K H m st am) {jv : V} {jn : Option (List Str × Nat)} {sg : Str} (j : Jnd (fz H) jv jn) : Am K m am H (upd H m (.dK (mdl { st with jn := jn, sg := sg } { am with jv := jv }))) { st with jn := jn, sg := sg } { am with jv := jv } := by
  have o : Off m H (upd H m (.dK (mdl { st with jn := jn, sg := sg } { am with jv := jv }))) := (Off.refl m H).upd
  have fk := FzK.offm x.at_ o
  obtain ⟨k1, k2, k3, k4, k5⟩ := x.keep o
  exact ⟨offm x.at_, ⟨.inl rfl, .inl rfl, .inl rfl, .inl rfl⟩, fk, ⟨upd_same, k1, k2, j.same (fz_keep fk), k4, k5, x.sep⟩⟩
/-- other links at a new list -/
theorem Mst.lnk (x : Mst K H m st am) {D : Addr} {ys : List Str} (nD : H D = none) (s : Same H H1) (e : H1 D = some (.lst (ys.map V.str))) : Am K m am H (upd H1 m (.dK (mdl { st with lk := ys } { am with Lk := D }))) { st with lk := ys } { am with Lk := D } := by
  have x1 := x.same s
  have o : Off m H1 (upd H1 m (.dK (mdl { st with lk := ys } { am with Lk := D }))) := (Off.refl m H1).upd
  have fk := FzK.offm x1.at_ o
  obtain ⟨k1, k2, k3, k4, k5⟩ := x1.keep o
  obtain ⟨_, el, _⟩ := x.lg
  obtain ⟨_, eq, _⟩ := x.qu
  obtain ⟨_, ea, _⟩ := x.an
  exact ⟨(OffA.same s).trans NewA.refl (offm x1.at_), ⟨.inr nD, .inl rfl, .inl rfl, .inl rfl⟩, (FzK.of s).trans fk, ⟨upd_same, o _ _ e (ne_dk e x1.at_), k2, k3, k4, k5, (ne_of_none el nD).symm, (ne_of_none eq nD).symm, (ne_of_none ea nD).symm, x.sep.2.2.2⟩⟩
end
end My

namespace My
open PySem PySem.Spec PyProof.Rows L2 Gy Xl Xs Xt Xo Xp Xu
section
variable {P : Program} {w : World} {K : PySem.W.Frag} {mg : Str → Option Value} {base : Heap} {H H1 H2 : Hp}
/-! ### the small defs over the model -/
def spNew (K : PySem.W.Frag) : Sp := fun vs H Q _ => ∃ (l g : Addr) (nm : Str) (xs : List Str) (us : List V) (lg : List PyData), vs = [.str nm, .ref l, .ref g] ∧ SqL K H l (xs.map V.str) ∧ xs.length < 64 ∧ SqL K H g us ∧ us.length ≤ 1000 ∧ Dns K (fz H) us lg ∧
  ∀ H' m am, Same H H' → H m = none → Mst K H' m ⟨nm, srt xs, lg, none, "free", [], []⟩ am → H am.Lk = none → H am.Ll = none → H am.Lq = none → H am.La = none → Q (.ref m) H'
theorem ok_new {f : Addr} {fd : FuncData} (F : Fun K "_law_new" "_law_new" s_law_new f fd) (Y : Bn mg) : FnOk P w K mg base CX0 1 f fd ["_law_name_here", "_law_linked_here", "_law_logged"] (spNew K) := by
  refine F.ok sc_law_new (fun vs H Q E h => ?_) (fun cdv A outer s H vs Q E hr h => ?_)
  · obtain ⟨l, g, nm, xs, us, lg, rfl, _⟩ := h
    rfl
  · obtain ⟨l, g, nm, xs, us, lg, rfl, sq, few, sg, gl, dg, q⟩ := h
    refine ⟨_, (pss_cons (ps_set (i := 3) sc_law_new.nd rfl (.inl rfl) (pe_disp (pps_cons pe_str (pv 0) (pps_cons pe_str (pe_callB cr_sortedS (by rfl) Y.sorted (by decide +kernel) (pa_cons (pv 1) pa_nil)) (pps_cons pe_str (pe_callTy call_list_of (by rfl) Y.list (by decide +kernel) (pa_cons (pv 2) pa_nil)) (pps_cons pe_str pe_non (pps_cons pe_str pe_str pps_nil))))) (by rfl) (by rfl) (fun z => by cases z) (by decide)))
 (pss_cons (ps_expr (pe_bm PySem.F.plainAttrs_dict PySem.F.slot_dict_update PySem.F.type_dict_update mt_upd (pv 3) (pa_cons (pe_disp (pps_cons pe_str (pe_lst pa_nil) (pps_cons pe_str (pe_lst pa_nil) pps_nil)) (by rfl) (by rfl) (fun z => by cases z) (by decide)) pa_nil)))
 (pss_one (ps_ret (pv 3))))), ?_⟩
    intro m nm0
    have s1 := same_upd (o := .dK []) nm0
    have g1 : (upd H m (.dK [])) m = some (.dK []) := upd_same
    generalize upd H m (.dK []) = H1 at s1 g1 ⊢
    refine ⟨_, rfl, _, rfl, l, xs, rfl, s1.seq sq, few, fun ys Lk pm srt_ nk => ?_⟩
    obtain rfl := srt_of pm srt_
    have s2 := same_upd (o := .lst ((srt xs).map V.str)) nk
    have g2 := s2 _ _ g1
    have k2 : (upd H1 Lk (.lst ((srt xs).map V.str))) Lk = _ := upd_same
    generalize upd H1 Lk (.lst ((srt xs).map V.str)) = H2 at s2 g2 k2 ⊢
    refine ⟨_, rfl, g, us, rfl, .inl (s2.seq (s1.seq sg)), fun Ll nl => ?_⟩
    have s3 := same_upd (o := .lst us) nl
    have g3 := s3 _ _ g2
    have k3 := s3 _ _ k2
    have l3 : (upd H2 Ll (.lst us)) Ll = _ := upd_same
    generalize upd H2 Ll (.lst us) = H3 at s3 g3 k3 l3 ⊢
    refine ⟨g3, [(.inr "name", .str nm), (.inr "links", .ref Lk), (.inr "log", .ref Ll), (.inr "relink", .non), (.inr "phase", .str "free")], rfl, (by show 5 ≤ 15; decide), ?_⟩
    rw [show mergeK [] ([(.inr "name", .str nm), (.inr "links", .ref Lk), (.inr "log", .ref Ll), (.inr "relink", .non), (.inr "phase", .str "free")] : List (L2.Key × V)) = [(.inr "name", .str nm), (.inr "links", .ref Lk), (.inr "log", .ref Ll), (.inr "relink", .non), (.inr "phase", .str "free")] from rfl]
    have o4 : Off m H3 (upd H3 m (.dK [(.inr "name", .str nm), (.inr "links", .ref Lk), (.inr "log", .ref Ll), (.inr "relink", .non), (.inr "phase", .str "free")])) := (Off.refl m H3).upd
    have g4 : (upd H3 m (.dK [(.inr "name", .str nm), (.inr "links", .ref Lk), (.inr "log", .ref Ll), (.inr "relink", .non), (.inr "phase", .str "free")])) m = some (.dK [(.inr "name", .str nm), (.inr "links", .ref Lk), (.inr "log", .ref Ll), (.inr "relink", .non), (.inr "phase", .str "free")]) := upd_same
    generalize upd H3 m (.dK [(.inr "name", .str nm), (.inr "links", .ref Lk), (.inr "log", .ref Ll), (.inr "relink", .non), (.inr "phase", .str "free")]) = H4 at o4 g4 ⊢
    have s04 : Same H H4 := fun b u e => o4 _ _ (s3 _ _ (s2 _ _ (s1 _ _ e))) (ne_of_none e nm0)
    have k4 := o4 _ _ k3 (ne_dk k3 g3)
    have l4 := o4 _ _ l3 (ne_dk l3 g3)
    have nk0 : H Lk = none := same_no s1 nk
    have nl0 : H Ll = none := same_no s1 (same_no s2 nl)
    refine ⟨_, rfl, .inr (.inr (.inl ⟨rfl, .inl ⟨_, g4⟩⟩)), fun d nd => ?_⟩
    have s5 := same_upd (o := .dK []) nd
    have g5 : (upd H4 d (.dK [])) d = some (.dK []) := upd_same
    have m5 := s5 _ _ g4
    generalize upd H4 d (.dK []) = H5 at s5 g5 m5 ⊢
    refine ⟨Nat.zero_le _, fun Lq nq => ?_⟩
    have s6 := same_upd (o := .lst []) nq
    have g6 := s6 _ _ g5
    have m6 := s6 _ _ m5
    have q6 : (upd H5 Lq (.lst [])) Lq = _ := upd_same
    generalize upd H5 Lq (.lst []) = H6 at s6 g6 m6 q6 ⊢
    refine ⟨Nat.zero_le _, fun La na => ?_⟩
    have s7 := same_upd (o := .lst []) na
    have g7 := s7 _ _ g6
    have m7 := s7 _ _ m6
    have q7 := s7 _ _ q6
    have a7 : (upd H6 La (.lst [])) La = _ := upd_same
    generalize upd H6 La (.lst []) = H7 at s7 g7 m7 q7 a7 ⊢
    refine ⟨g7, [(.inr "queue", .ref Lq), (.inr "answers", .ref La)], rfl, (by show 2 ≤ 15; decide), ?_⟩
    rw [show mergeK [] ([(.inr "queue", .ref Lq), (.inr "answers", .ref La)] : List (L2.Key × V)) = [(.inr "queue", .ref Lq), (.inr "answers", .ref La)] from rfl]
    have md : m ≠ d := ne_of_none g4 nd
    have s47 := s5.trans (s6.trans s7)
    refine ⟨m, d, _, _, rfl, rfl, md, (upd_ne md).trans m7, upd_same, (by show 5 + 2 ≤ sizeLine; decide), ?_⟩
    rw [show mergeK ([(.inr "name", .str nm), (.inr "links", .ref Lk), (.inr "log", .ref Ll), (.inr "relink", .non), (.inr "phase", .str "free")] : List (L2.Key × V)) [(.inr "queue", .ref Lq), (.inr "answers", .ref La)] = mdl ⟨nm, srt xs, lg, none, "free", [], []⟩ ⟨Lk, Ll, Lq, La, .non, 0⟩ from rfl]
    have nd0 : H d = none := same_no s04 nd
    have nq0 : H Lq = none := same_no s04 (same_no s5 nq)
    have na0 : H La = none := same_no s04 (same_no s5 (same_no s6 na))
    have two : ∀ {y o}, H7 y = some o → y ≠ m → y ≠ d → ∀ {u v}, (upd (upd H7 d u) m v) y = some o := fun {y o} e n1 n2 {u v} => (upd_ne n1).trans ((upd_ne n2).trans e)
    have k7 := s47 _ _ k4
    have l7 := s47 _ _ l4
    have sF : Same H (upd (upd H7 d (.dK [(.inr "queue", .ref Lq), (.inr "answers", .ref La)])) m (.dK (mdl ⟨nm, srt xs, lg, none, "free", [], []⟩ ⟨Lk, Ll, Lq, La, .non, 0⟩))) := fun b u e => two (s47 _ _ (s04 _ _ e)) (ne_of_none e nm0) (ne_of_none e nd0)
    have fk := fz_keep (FzK.of sF)
    refine ⟨_, rfl, q _ m ⟨Lk, Ll, Lq, La, .non, 0⟩ sF nm0 ⟨upd_same, two k7 (ne_dk k7 m7) (ne_dk k7 g7), ⟨us, two l7 (ne_dk l7 m7) (ne_dk l7 g7), dg.same fk⟩, rfl, ⟨[], two q7 (ne_dk q7 m7) (ne_dk q7 g7), .nil⟩, ⟨[], two a7 (ne_dk a7 m7) (ne_dk a7 g7), .nil⟩, ne_of_none k2 nl, ne_of_none (s5 _ _ k4) nq, ne_of_none (s6 _ _ (s5 _ _ k4)) na, ne_of_none (s5 _ _ l4) nq, ne_of_none (s6 _ _ (s5 _ _ l4)) na, ne_of_none q6 na⟩ nk0 nl0 nq0 na0⟩
/-- whom the model waits for -/
def spAw (K : PySem.W.Frag) : Sp := fun vs H Q _ => ∃ (m : Addr) (st : HS) (am : HA), vs = [.ref m] ∧ Mst K H m st am ∧ (∀ xs c, st.jn = some (xs, c) → 0 < xs.length) ∧ Q (optV (awt st)) H
theorem ok_aw {f : Addr} {fd : FuncData} (F : Fun K "_law_awaited" "_law_awaited" s_law_awaited f fd) (Y : Bn mg) : FnOk P w K mg base CX0 1 f fd ["_law_model"] (spAw K) := by
  refine F.ok sc_law_awaited (fun vs H Q E h => ?_) (fun cdv A outer s H vs Q E hr h => ?_)
  · obtain ⟨m, st, am, rfl, _⟩ := h
    rfl
  · obtain ⟨m, st, am, rfl, x, l0, q⟩ := h
    have hu1 := hu_of hr
    refine ⟨_, (pss_cons (ps_if (pt_cmpR op_isN (pe_dget hu1 (pv 0) pe_str (fun _ _ => rfl)) pe_non (nomark _))
 (pss_one (ps_ret pe_non))
 pss_nil)
 (pss_cons (ps_set (i := 1) sc_law_awaited.nd rfl (.inl rfl) (pe_ix ix_tup (pe_dget hu1 (pv 0) pe_str (fun _ _ => rfl)) pe_int (fun _ _ => rfl)))
 (pss_cons (ps_if (pt_cmpR op_eq (pe_dget hu1 (pv 0) pe_str (fun _ _ => rfl)) (pe_ix ix_tup (pv 1) pe_int (fun _ _ => rfl)) (nomark _))
 (pss_one (ps_ret (pe_ix ix_tup (pv 1) (pe_un un_neg pe_int) (fun _ _ => rfl))))
 pss_nil)
 (pss_one (ps_ret (pe_ifExp (pt_cmpR op_eq (pe_dget hu1 (pv 0) pe_str (fun _ _ => rfl)) (pe_ix ix_tup (pv 1) (pe_un un_neg pe_int) (fun _ _ => rfl)) (nomark _)) (pe_ix ix_tup (pv 1) pe_int (fun _ _ => rfl)) pe_non)))))), ?_⟩
    refine ⟨_, rfl, m, _, rfl, DGet.k (k := .inr "relink") x.at_, ?_⟩
    refine ⟨rfl, _, rfl, ?_⟩
    dsimp only
    unfold awt at q
    have jj := x.jn
    cases ej : st.jn with
    | none =>
      rw [ej] at jj q
      have e : am.jv = .non := jj
      rw [e]
      exact iteT q
    | some p =>
      obtain ⟨xs, c⟩ := p
      have lx := l0 xs c ej
      rw [ej] at jj q
      obtain ⟨t, pa, e, za, zb⟩ := jj
      replace za := za.same (fz_same H)
      replace zb := zb.same (fz_same H)
      dsimp only at q
      rw [decide_eq_false (show ¬ am.jv = V.non from fun z => by rw [e] at z; cases z)]
      refine iteF ⟨_, rfl, m, _, rfl, DGet.k (k := .inr "relink") x.at_, t, _, 0, .ref pa, e, rfl, za.sq, atI_nat (j := 0) rfl, ?_⟩
      refine ⟨_, rfl, m, _, rfl, DGet.k (k := .inr "name") x.at_, _, rfl, pa, _, 0, _, rfl, rfl, zb.sq, at_nat (i := 0) lx, rfl, _, rfl, ite2 (fun c1 => ?_) (fun c1 => ?_)⟩
      · have c1' : st.nm = xs.getD 0 "" := by
          have z := of_decide_eq_true c1
          injection z
        rw [if_pos c1'] at q
        exact ⟨_, rfl, 1, rfl, pa, _, -1, _, rfl, rfl, zb.sq, at_end lx, q⟩
      have c1' : ¬ st.nm = xs.getD 0 "" := fun z => c1 (decide_eq_true (by rw [z]))
      rw [if_neg c1'] at q
      refine ⟨_, rfl, m, _, rfl, DGet.k (k := .inr "name") x.at_, _, rfl, 1, rfl, pa, _, -1, _, rfl, rfl, zb.sq, at_end lx, rfl, _, rfl, ite2 (fun c2 => ?_) (fun c2 => ?_)⟩
      · have c2' : st.nm = xs.getD (xs.length - 1) "" := by
          have z := of_decide_eq_true c2
          injection z
        rw [if_pos c2'] at q
        exact ⟨_, rfl, pa, _, 0, _, rfl, rfl, zb.sq, at_nat (i := 0) lx, q⟩
      · have c2' : ¬ st.nm = xs.getD (xs.length - 1) "" := fun z => c2 (decide_eq_true (by rw [z]))
        rw [if_neg c2'] at q
        exact q
def spLnk (K : PySem.W.Frag) (g : List Str → Str → List Str) : Sp := fun vs H Q _ => ∃ (m : Addr) (o : Str) (st : HS) (am : HA), vs = [.ref m, .str o] ∧ Mst K H m st am ∧ st.lk.length < 60 ∧
  ∀ H' D, Am K m am H H' { st with lk := g st.lk o } { am with Lk := D } → Q .non H'
theorem ok_lnk {f : Addr} {fd : FuncData} (F : Fun K "_law_linked" "_law_linked" s_law_linked f fd) (Y : Bn mg) : FnOk P w K mg base CX0 1 f fd ["_law_model", "_law_other"] (spLnk K fun xs o => srt (xs ++ [o])) := by
  refine F.ok sc_law_linked (fun vs H Q E h => ?_) (fun cdv A outer s H vs Q E hr h => ?_)
  · obtain ⟨m, o, st, am, rfl, _⟩ := h
    rfl
  · obtain ⟨m, o, st, am, rfl, x, few, q⟩ := h
    have hu1 := hu_of hr
    refine ⟨_, (pss_one (ps_dput hu1 (pv 0) pe_str (pe_callB cr_sortedS (by rfl) Y.sorted (by decide +kernel) (pa_cons (pe_op op_cat (pe_dget hu1 (pv 0) pe_str (fun _ _ => rfl)) (pe_lst (pa_cons (pv 1) pa_nil))) pa_nil)) rfl)), ?_⟩
    have lk1 : (st.lk ++ [o]).map V.str = st.lk.map V.str ++ [.str o] := by rw [List.map_append]; rfl
    refine ⟨_, rfl, m, _, rfl, DGet.k (k := .inr "links") x.at_, _, rfl, (by show 1 ≤ sizeLine; decide), fun l nl => ?_⟩
    have s1 := same_upd (o := .lst [.str o]) nl
    have g1 : (upd H l (.lst [.str o])) l = _ := upd_same
    generalize upd H l (.lst [.str o]) = H1 at s1 g1 ⊢
    refine ⟨am.Lk, l, _, _, rfl, rfl, s1 _ _ x.lk, g1, ?_, fun p np => ?_⟩
    · rw [List.length_map]
      exact le400 (by show st.lk.length + 1 ≤ 10000; omega)
    have s2 := same_upd (o := .lst (st.lk.map V.str ++ [.str o])) np
    have g2 : (upd H1 p (.lst (st.lk.map V.str ++ [.str o]))) p = _ := upd_same
    generalize upd H1 p (.lst (st.lk.map V.str ++ [.str o])) = H2 at s2 g2 ⊢
    refine ⟨p, st.lk ++ [o], rfl, SqL.of (by rw [lk1]; exact g2), (by rw [List.length_append, List.length_cons, List.length_nil]; omega), fun ys D pm srt_ nD => ?_⟩
    obtain rfl := srt_of pm srt_
    have s3 := same_upd (o := .lst ((srt (st.lk ++ [o])).map V.str)) nD
    have g3 : (upd H2 D (.lst ((srt (st.lk ++ [o])).map V.str))) D = _ := upd_same
    generalize upd H2 D (.lst ((srt (st.lk ++ [o])).map V.str)) = H3 at s3 g3 ⊢
    have s03 := s1.trans (s2.trans s3)
    refine ⟨_, rfl, m, _, rfl, DPut.k (k := .inr "links") (s03 _ _ x.at_) (by show 7 < sizeLine; decide), ?_⟩
    rw [mp_links st am D (srt (st.lk ++ [o]))]
    exact q _ D (x.lnk (same_no (s1.trans s2) nD) s03 g3)
theorem ok_unl {f : Addr} {fd : FuncData} (F : Fun K "_law_unlinked" "_law_unlinked" s_law_unlinked f fd) (Y : Bn mg) : FnOk P w K mg base CX0 1 f fd ["_law_model", "_law_other"] (spLnk K fun xs o => xs.filter (· ≠ o)) := by
  refine F.ok sc_law_unlinked (fun vs H Q E h => ?_) (fun cdv A outer s H vs Q E hr h => ?_)
  · obtain ⟨m, o, st, am, rfl, _⟩ := h
    rfl
  · obtain ⟨m, o, st, am, rfl, x, few, q⟩ := h
    have hu1 := hu_of hr
    refine ⟨_, (pss_one (ps_dput hu1 (pv 0) pe_str (pe_lc (own := [("_law_link", 2)]) (g := gName 2) (tt := tTest (tOp rNe (tVar 2) (tVar 1))) rfl sc_law_unlinked.nd (pi_list (pe_dget hu1 (pv 0) pe_str (fun _ _ => rfl))) (blkOk_by (N := ["_law_model", "_law_other", "_law_link"]) (sc := defScope s_law_unlinked) (by decide +kernel)) (fun _ _ _ _ _ => (pg_name (i := 2) sc_law_unlinked.nd rfl (Or.inl rfl))) (fun _ _ _ _ _ => (pts_one (pt_cmpR op_ne (pv 2) (pv 1) (nomark _)))) (fun _ _ _ _ _ => (pv 2))) rfl)), ?_⟩
    refine ⟨_, rfl, m, _, rfl, DGet.k (k := .inr "links") x.at_, am.Lk, rfl, ⟨_, SqL.of x.lk⟩, fun D nD => ?_⟩
    refine lc_it (walk_list (K := K) (a := am.Lk) (xs := st.lk.map V.str)) (fun i H' => Same H H' ∧ H' D = some (.lst (((st.lk.take i).filter (· ≠ o)).map V.str)))
      ⟨same_upd nD, upd_same⟩ (fun i H' _ hI => SqL.of (hI.1 _ _ x.lk)) ?_ ?_
    · rintro i y H4 H5 hi ⟨s4, hD⟩ ⟨rfl, hy⟩
      rw [List.getElem?_map] at hy
      obtain ⟨z, hz, rfl⟩ := Option.map_eq_some_iff.mp hy
      refine ⟨rfl, _, rfl, _, rfl, rfl, _, rfl, ite2 (fun c => ?_) (fun c => ?_)⟩
      · have c' : z ≠ o := fun w => by
          rw [w] at c
          simp at c
        refine ⟨_, rfl, _, hD, ?_, same_upd2 s4 nD, ?_⟩
        · rw [List.length_map]
          refine small200 (Nat.le_trans (List.length_filter_le _ _) ?_)
          rw [List.length_take]
          omega
        · rw [upd_same, List.take_add_one, hz, List.filter_append, List.map_append]
          show some (HO.lst _) = some (HO.lst (_ ++ (List.filter _ [z]).map V.str))
          rw [List.filter_cons_of_pos (by simpa using c')]
          rfl
      · have c' : z = o := by
          cases w : decide (z = o) with
          | true => exact of_decide_eq_true w
          | false =>
            exfalso
            apply c
            rw [decide_eq_false (fun e => of_decide_eq_false w (by injection e))]
            rfl
        refine ⟨s4, ?_⟩
        rw [hD, List.take_add_one, hz, List.filter_append]
        show some (HO.lst _) = some (HO.lst ((_ ++ List.filter _ [z]).map V.str))
        rw [List.filter_cons_of_neg (by simpa using c'), List.filter_nil, List.append_nil]
    · rintro H4 ⟨s4, hD⟩
      rw [List.length_map, List.take_of_length_le (Nat.le_refl _)] at hD
      refine ⟨_, rfl, m, _, rfl, DPut.k (k := .inr "links") (s4 _ _ x.at_) (by show 7 < sizeLine; decide), ?_⟩
      rw [mp_links st am D (st.lk.filter (· ≠ o))]
      exact q _ D (x.lnk nD s4 hD)


end
end My

namespace My
open PySem PySem.Spec PyProof.Rows L2 Gy Xl Xs Xt Xo Xp Xu
section
variable {K : PySem.W.Frag} {H H1 H2 : Hp}
theorem if_use {t : TT} {A B rest : TS} {D : Ends} {σ : L2.St} {H : Hp} (b : Bool) (h1 : ∀ Q' : Bool → Hp → Prop, Q' b H → t σ H Q') (hT : b = true → A { D with nx := rest D } σ H) (hF : b = false → B { D with nx := rest D } σ H) : tSeq (tIfS t A B) rest D σ H := by
  refine h1 _ ?_
  cases b with
  | true => exact hT rfl
  | false => exact hF rfl
theorem jv_isM {m : Addr} {st : HS} {am : HA} (x : Mst K H m st am) : decide (am.jv = V.non) = st.jn.isNone := by
  have jj := x.jn
  cases ej : st.jn with
  | none =>
    rw [ej] at jj
    have e : am.jv = .non := jj
    rw [e]
    rfl
  | some p =>
    rw [ej] at jj
    obtain ⟨xs, c⟩ := p
    obtain ⟨t, pa, e, _⟩ := jj
    rw [e]
    rfl
theorem Mst.que {m : Addr} {st : HS} {am : HA} {lv : List V} {v : V} {d : PyData} (x : Mst K H m st am) (e : H am.Lq = some (.lst lv)) (dl : Dns K (fz H) lv st.qu) (dn : Dn K (fz H) v d) : Am K m am H (upd H am.Lq (.lst (lv ++ [v]))) { st with qu := st.qu ++ [d] } am := by
  have fk0 := (FzK.refl H).upd (w := .lst (lv ++ [v])) e (fun _ _ z => nomatch z)
  have fk := fz_keep fk0
  obtain ⟨v2, a2, b2⟩ := x.an
  obtain ⟨v3, a3, b3⟩ := x.lg
  obtain ⟨s1, s2, s3, s4, s5, s6⟩ := x.sep
  exact ⟨⟨fun b u e _ _ n _ => (upd_ne n).trans e, fun b n => by
    by_cases e : b = am.Lq
    · rw [e, upd_same] at n
      cases n
    · rw [upd_ne e] at n
      exact n⟩, NewA.refl, fk0, ⟨(upd_ne (ne_dk e x.at_).symm).trans x.at_, (upd_ne s2).trans x.lk, ⟨v3, (upd_ne s4).trans a3, b3.same fk⟩, x.jn.same fk, ⟨_, upd_same, dns_app (dl.same fk) (.cons (dn.same fk) .nil)⟩, ⟨v2, (upd_ne s6.symm).trans a2, b2.same fk⟩, x.sep⟩⟩
end
end My

namespace My
open PySem PySem.Spec PyProof.Rows L2 Gy Xl Xs Xt
theorem cut_take (xs : List V) (n : Nat) : cutV xs none (some (n : Int)) = xs.take n := by
  unfold cutV
  rw [HT.sIx_none, HT.sIx_nat, List.drop_zero, Nat.sub_zero]
  by_cases h : n ≤ xs.length
  · rw [Nat.min_eq_left h]
  · rw [Nat.min_eq_right (by omega), List.take_of_length_le (Nat.le_refl _), List.take_of_length_le (by omega)]
theorem cut_drop (xs : List V) (n : Nat) : cutV xs (some (n : Int)) none = xs.drop n := by
  unfold cutV
  rw [HT.sIx_none, HT.sIx_nat]
  by_cases h : n ≤ xs.length
  · rw [Nat.min_eq_left h, List.take_of_length_le (by rw [List.length_drop]; exact Nat.le_refl _)]
  · rw [Nat.min_eq_right (by omega), Nat.sub_self, List.take_zero, List.drop_eq_nil_of_le (by omega)]
theorem rcut_of {H : Hp} {a : Addr} {xs ys : List V} {lo hi : Option Int} {Q : VK} (z : Tz H a xs) (e : cutV xs lo hi = ys) (k : ∀ t H', Same H H' → Tz H' t ys → Q (.ref t) H') : NewT (cutV xs lo hi) H Q ∧ (cutV xs lo hi = xs → Q (.ref a) H) := by
  refine ⟨fun p o n s t => k p _ s ?_, fun w => k a H (Same.refl _) ?_⟩
  · rw [← e]
    exact t
  · rw [← e, w]
    exact z
theorem sum_of {H : Hp} {a b : Addr} {xs ys : List V} {Q : VK} (z1 : Tz H a xs) (z2 : Tz H b ys) (k : ∀ t H', Same H H' → Tz H' t (xs ++ ys) → Q (.ref t) H') : NewT (xs ++ ys) H Q ∧ (xs = [] → Q (.ref b) H) ∧ (ys = [] → Q (.ref a) H) := by
  refine ⟨fun p o n s t => k p _ s t, fun w => k b H (Same.refl _) ?_, fun w => k a H (Same.refl _) ?_⟩
  · rw [w]
    exact z2
  · rw [w, List.append_nil]
    exact z1
theorem rot3 {A B C : Prop} (h : C ∧ A ∧ B) : A ∧ B ∧ C := ⟨h.2.1, h.2.2, h.1⟩
end My

namespace My
open PySem PySem.Spec PyProof.Rows L2 Gy Xl Xs Xt Xo Xp Xu
/-! ### the model logs a message and sends it on -/
section
variable {P : Program} {w : World} {K : PySem.W.Frag} {mg : Str → Option Value} {base : Heap} {H H1 H2 : Hp}
def spBit (K : PySem.W.Frag) : Sp := fun vs H Q _ => ∃ (m : Addr) (v g b : V) (st : HS) (am : HA), vs = [.ref m, v, g, b] ∧ Mst K H m st am ∧ st.sg = "free" ∧ Q (.int 0) H
theorem ok_bit {f : Addr} {fd : FuncData} (F : Fun K "_law_bit" "_law_bit" s_law_bit f fd) (Y : Bn mg) : FnOk P w K mg base CX0 1 f fd ["_law_model", "_law_source", "_law_goal", "_law_bit_here"] (spBit K) := by
  refine F.ok sc_law_bit (fun vs H Q E h => ?_) (fun cdv A outer s H vs Q E hr h => ?_)
  · obtain ⟨m, v, g, b, st, am, rfl, _⟩ := h
    rfl
  · obtain ⟨m, v, g, b, st, am, rfl, x, fr, q⟩ := h
    have hu1 := hu_of hr
    have hu64 := hr.units
    refine ⟨_, (pss_cons (ps_if (PW.pt (pw_or (pt_cmpR op_ne (pe_dget hu1 (pv 0) pe_str (fun _ _ => rfl)) pe_str (nomark _)) (pw_or1 (pt_cmpR op_notIn_seq (pv 2) (pe_ix ix_tup (pe_dget hu1 (pv 0) pe_str (fun _ _ => rfl)) pe_int (fun _ _ => rfl)) rfl))))
 (pss_one (ps_ret pe_int))
 pss_nil)
 (pss_cons (ps_asg (pe_dget hu1 (pv 0) pe_str (fun _ _ => rfl)) (pg_tup (by rfl) (pgs_cons (pg_name (i := 4) sc_law_bit.nd rfl (Or.inl rfl)) (pgs_cons (pg_name (i := 5) sc_law_bit.nd rfl (Or.inl rfl)) pgs_nil))))
 (pss_cons (ps_par (i := 6) (j := 7) (by rfl) sc_law_bit.nd rfl rfl (by decide) rfl rfl (pa_cons (pe_tm PySem.F.slot_tuple_index PySem.F.type_tuple_index mt_tup_index (pv 4) (pa_cons (pe_dget hu1 (pv 0) pe_str (fun _ _ => rfl)) pa_nil)) (pa_cons (pe_op op_sub (pe_callB call_len_seq (by rfl) Y.len PySem.boot_len (pa_cons (pv 4) pa_nil)) pe_int) pa_nil)) (by rfl))
 (pss_cons (ps_set (i := 8) sc_law_bit.nd rfl (.inl rfl) (pe_tm PySem.F.slot_tuple_index PySem.F.type_tuple_index mt_tup_index (pv 4) (pa_cons (pv 2) pa_nil)))
 (pss_cons (ps_set (i := 9) sc_law_bit.nd rfl (.inl rfl) (pe_or (pe_cmpR op_isN (pv 1) pe_non (nomark _)) (pe_one (pe_cmpR op_notIn_seq (pv 1) (pv 4) rfl))))
 (pss_cons (ps_if (pt_cmpR (op_eqD hu64) (pe_callB cr_sortedS (by rfl) Y.sorted (by decide +kernel) (pa_cons (pe_lst (pa_cons (pv 6) (pa_cons (pv 8) pa_nil))) pa_nil)) (pe_lst (pa_cons pe_int (pa_cons (pv 7) pa_nil))) (nomark _))
 (pss_one (ps_ret (pe_ifExp (PW.pt (pw_or (pt_val (pv 9)) (pw_or1 (pt_cmpR op_eq (pv 3) pe_int (nomark _))))) pe_int pe_non)))
 pss_nil)
 (pss_cons (ps_if (PW.pt (pw_and (pt_chain op_lt op_lt (pv 5) (pv 6) (pv 7)) (pw_and1 (pt_cmpR op_eq (pv 8) (pe_op op_add (pv 6) pe_int) (nomark _)))))
 (pss_one (ps_ret (pe_ifExp (pt_val (pv 9)) pe_int (pv 3))))
 pss_nil)
 (pss_cons (ps_if (PW.pt (pw_and (pt_chain op_lt op_le pe_int (pv 6) (pv 5)) (pw_and1 (pt_cmpR op_eq (pv 8) (pe_op op_sub (pv 6) pe_int) (nomark _)))))
 (pss_one (ps_ret (pe_ifExp (pt_val (pv 9)) pe_int (pv 3))))
 pss_nil)
 (pss_one (ps_ret pe_int)))))))))), ?_⟩
    refine ⟨_, rfl, m, _, rfl, DGet.k (k := .inr "phase") x.at_, rfl, _, rfl, ?_⟩
    dsimp only
    rw [fr]
    exact iteT (iteT q)
theorem Mst.log {m : Addr} {st : HS} {am : HA} {lv : List V} {v : V} {w x : Str} (mx : Mst K H m st am) (e : H am.Ll = some (.lst lv)) (dl : Dns K (fz H) lv st.lg) (dn : Dn K (fz H) v (logD w x)) : Am K m am H (upd H am.Ll (.lst (lv ++ [v]))) (logged st w x) am := by
  have fk0 := (FzK.refl H).upd (w := .lst (lv ++ [v])) e (fun _ _ z => nomatch z)
  have fk := fz_keep fk0
  obtain ⟨v2, a2, b2⟩ := mx.an
  obtain ⟨v3, a3, b3⟩ := mx.qu
  obtain ⟨s1, s2, s3, s4, s5, s6⟩ := mx.sep
  exact ⟨⟨fun b u e _ n _ _ => (upd_ne n).trans e, fun b n => by
    by_cases e : b = am.Ll
    · rw [e, upd_same] at n
      cases n
    · rw [upd_ne e] at n
      exact n⟩, NewA.refl, fk0, ⟨(upd_ne (ne_dk e mx.at_).symm).trans mx.at_, (upd_ne s1).trans mx.lk, ⟨_, upd_same, dns_app (dl.same fk) (.cons (dn.same fk) .nil)⟩, mx.jn.same fk, ⟨v3, (upd_ne s4.symm).trans a3, b3.same fk⟩, ⟨v2, (upd_ne s5.symm).trans a2, b2.same fk⟩, mx.sep⟩⟩
def spSprM (K : PySem.W.Frag) : Sp := fun vs H Q _ => ∃ (m ta : Addr) (src : Option Str) (w x : Str) (b : V) (st : HS) (am : HA), vs = [.ref m, .ref ta, optV src, b] ∧ Mst K H m st am ∧ Free st ∧ Tz H ta [.str w, .str x] ∧
  ∀ H' L us, Am K m am H H' (logged st w x) am → H L = none → H' L = some (.lst us) → Dns K (fz H') us (spread st src w x) → Q (.ref L) H'
theorem gls_take_yes {src : Option Str} {ys : List Str} {i : Nat} {y : Str} (h : ys[i]? = some y) (n : V.str y ≠ optV src) : gls src (ys.take (i + 1)) = gls src (ys.take i) ++ [y] := by
  unfold gls
  rw [List.take_add_one, h, List.filter_append]
  show _ ++ List.filter _ [y] = _
  rw [List.filter_cons_of_pos (by simpa using n)]
  rfl
theorem gls_take_no {src : Option Str} {ys : List Str} {i : Nat} {y : Str} (h : ys[i]? = some y) (n : V.str y = optV src) : gls src (ys.take (i + 1)) = gls src (ys.take i) := by
  unfold gls
  rw [List.take_add_one, h, List.filter_append]
  show _ ++ List.filter _ [y] = _
  rw [List.filter_cons_of_neg (by simpa using n)]
  simp
theorem ok_sprM {f : Addr} {fd : FuncData} (F : Fun K "_law_spread" "_law_spread" s_law_spread f fd) (Y : Bn mg) (G_law_bit : Fk P w K mg base CX0 1 "_law_bit" ["_law_model", "_law_source", "_law_goal", "_law_bit_here"] (spBit K)) : FnOk P w K mg base CX0 2 f fd ["_law_model", "_law_message", "_law_source", "_law_bit_here"] (spSprM K) := by
  refine F.ok sc_law_spread (fun vs H Q E h => ?_) (fun cdv A outer s H vs Q E hr h => ?_)
  · obtain ⟨m, ta, src, w, x, b, st, am, rfl, _⟩ := h
    rfl
  · obtain ⟨m, ta, src, wr, wd, b, st, am, rfl, mx, fr, zt, q⟩ := h
    have hu1 := hu_of hr
    refine ⟨_, (pss_cons (ps_expr (pe_bm PySem.F.plainAttrs_list PySem.F.slot_list_append PySem.F.type_list_append mt_append (pe_dget hu1 (pv 0) pe_str (fun _ _ => rfl)) (pa_cons (pv 1) pa_nil)))
 (pss_cons (ps_set (i := 4) sc_law_spread.nd rfl (.inl rfl) (pe_lst pa_nil))
 (pss_cons (ps_for PassesOwn.never rfl (pi_list (pe_dget hu1 (pv 0) pe_str (fun _ _ => rfl))) (pg_name (i := 5) sc_law_spread.nd rfl (Or.inl rfl))
 (pss_cons (ps_set (i := 6) sc_law_spread.nd rfl (.inl rfl) (pe_callF G_law_bit (hr.mono (by decide)) (by rfl) pass0 (pa_cons (pv 0) (pa_cons (pv 2) (pa_cons (pv 5) (pa_cons (pv 3) pa_nil))))))
 (pss_one (ps_if (PW.pt (pw_and (pt_cmpR op_ne (pv 5) (pv 2) (nomark _)) (pw_and1 (pt_cmpR op_notN (pv 6) pe_non (nomark _)))))
 (pss_one (ps_expr (pe_bm PySem.F.plainAttrs_list PySem.F.slot_list_append PySem.F.type_list_append mt_append (pv 4) (pa_cons (pe_tupZ (pa_cons (pv 5) (pa_cons (pe_op op_sum (pe_op op_sum (pe_tupZ (pa_cons pe_str pa_nil)) (pv 1)) (pe_tupZ (pa_cons (pv 6) pa_nil))) pa_nil))) pa_nil))))
 pss_nil))))
 (pss_one (ps_ret (pv 4)))))), ?_⟩
    obtain ⟨lv, el, dl⟩ := mx.lg
    have ll := Dns.len dl
    have flg := fr.lg
    refine ⟨_, rfl, m, _, rfl, DGet.k (k := .inr "log") mx.at_, .inl ⟨rfl, _, SqL.of el⟩, _, rfl, am.Ll, lv, .ref ta, rfl, rfl, el, (by rw [sizeLine_eq]; omega), ?_⟩
    have a1 := mx.log el dl (w := wr) (x := wd) (.tup (Tz.fz zt) (.cons (.str _) (.cons (.str _) .nil)))
    generalize upd H am.Ll (.lst (lv ++ [.ref ta])) = H1 at a1 ⊢
    refine ⟨Nat.zero_le _, fun l nl => ?_⟩
    have s2 := same_upd (o := .lst []) nl
    have g2 : (upd H1 l (.lst [])) l = some (.lst []) := upd_same
    have a2 := a1.same s2
    have nl0 := a1.off.dm _ nl
    have ol : ∀ {y o}, H1 y = some o → y ≠ l := fun e => ne_of_none e nl
    generalize upd H1 l (.lst []) = H2 at s2 g2 a2 ⊢
    have lkn : am.Lk ≠ l := ol a1.hx.lk
    have zt2 := zt.fzk a2.fk
    refine ⟨_, rfl, m, _, rfl, DGet.k (k := .inr "links") a2.hx.at_, am.Lk, rfl, ⟨_, SqL.of a2.hx.lk⟩, ?_⟩
    refine for_it (walk_list (K := K) (a := am.Lk) (xs := st.lk.map V.str)) (fun i σ H' => ∃ (a5 a6 : Option V) (us : List V), σ = [some (.ref m), some (.ref ta), some (optV src), some b, some (.ref l), a5, a6] ∧ (∀ y o, H2 y = some o → y ≠ l → H' y = some o) ∧ H' l = some (.lst us) ∧ Dns K (fz H') us (((gls src (st.lk.take i)).map fun g => (g, (0 : Int))).map (sendD wr wd)))
      ⟨none, none, [], rfl, fun y o e _ => e, g2, .nil⟩ (fun i σ H' _ hP => by obtain ⟨_, _, _, _, k, _⟩ := hP; exact SqL.of (k _ _ a2.hx.lk lkn)) ?_ ?_
    · rintro i y σ HA H3 hi ⟨a5, a6, us, rfl, off, hl, du⟩ ⟨rfl, hy⟩
      rw [List.getElem?_map] at hy
      obtain ⟨z, hz, rfl⟩ := Option.map_eq_some_iff.mp hy
      have fk3 : FzK H2 H3 := fun b' ob u e => off b' _ e (ne_of e g2 (fun z => nomatch z))
      have lu := Dns.len du
      rw [List.length_map, List.length_map] at lu
      have gl : (gls src (st.lk.take i)).length ≤ st.lk.length := Nat.le_trans (List.length_filter_le _ _) (by rw [List.length_take]; omega)
      have fl := fr.lk
      have mx3 : Mst K H3 m (logged st wr wd) am := by
        obtain ⟨v1, e1, d1⟩ := a2.hx.lg
        obtain ⟨v2, e2, d2⟩ := a2.hx.qu
        obtain ⟨v3, e3, d3⟩ := a2.hx.an
        obtain ⟨_, f1, _⟩ := a1.hx.lg
        obtain ⟨_, f2, _⟩ := a1.hx.qu
        obtain ⟨_, f3, _⟩ := a1.hx.an
        have f := fz_keep fk3
        exact ⟨off _ _ a2.hx.at_ (ol a1.hx.at_), off _ _ a2.hx.lk lkn, ⟨v1, off _ _ e1 (ol f1), d1.same f⟩, a2.hx.jn.same f, ⟨v2, off _ _ e2 (ol f2), d2.same f⟩, ⟨v3, off _ _ e3 (ol f3), d3.same f⟩, a2.hx.sep⟩
      refine ⟨_, rfl, _, rfl, _, rfl, _, rfl, m, _, _, _, _, am, rfl, mx3, fr.sg, ?_⟩
      refine ⟨_, rfl, _, rfl, scal_opt z src, _, rfl, ?_⟩
      by_cases e : V.str z = optV src
      · rw [decide_eq_true e]
        refine iteF ⟨_, _, us, rfl, off, hl, ?_⟩
        rw [gls_take_no hz e]
        exact du
      · rw [decide_eq_false e]
        refine iteT ⟨_, rfl, rfl, _, rfl, iteT ?_⟩
        have zt3 := zt2.fzk fk3
        refine ⟨_, rfl, .inl ⟨rfl, _, SqL.of hl⟩, _, rfl, (by show 1 ≤ sizeLine; decide), fun t1 o1 n1 s4 z4 => ?_⟩
        generalize upd _ t1 o1 = H4 at s4 z4 ⊢
        refine ⟨_, rfl, t1, ta, _, _, rfl, rfl, z4, zt3.same s4, (by show 1 + 2 ≤ sizeLine; decide), rot3 (sum_of z4 (zt3.same s4) fun t2 H5 s5 z5 => ?_)⟩
        refine ⟨_, rfl, (by show 1 ≤ sizeLine; decide), fun t3 o3 n3 s6 z6 => ?_⟩
        generalize upd H5 t3 o3 = H6 at s6 z6 ⊢
        refine ⟨t2, t3, _, _, rfl, rfl, z5.same s6, z6, (by show 3 + 1 ≤ sizeLine; decide), rot3 (sum_of (z5.same s6) z6 fun t4 H7 s7 z7 => ?_)⟩
        refine ⟨(by show 2 ≤ sizeLine; decide), fun t5 o5 n5 s8 z8 => ?_⟩
        generalize upd H7 t5 o5 = H8 at s8 z8 ⊢
        have s38 := s4.trans (s5.trans (s6.trans (s7.trans s8)))
        have hl8 := s38 _ _ hl
        refine ⟨l, us, .ref t5, rfl, rfl, hl8, small200 (by omega), ?_⟩
        have fk8 : FzK H8 (upd H8 l (.lst (us ++ [.ref t5]))) := (FzK.refl H8).upd hl8 (fun _ _ z => nomatch z)
        refine ⟨_, _, us ++ [.ref t5], rfl, fun y o e n => (upd_ne n).trans (s38 _ _ (off y o e n)), upd_same, ?_⟩
        rw [gls_take_yes hz e, List.map_append, List.map_append]
        refine dns_app ((du.same (fz_keep (FzK.of s38))).same (fz_keep fk8)) (.cons (Dn.same (fz_keep fk8) ?_) .nil)
        exact .tup (Tz.fz z8) (.cons (.str _) (.cons (.tup (Tz.fz (z7.same s8)) (.cons (.str _) (.cons (.str wr) (.cons (.str wd) (.cons (.int 0) .nil))))) .nil))
    · rintro σ H3 ⟨a5, a6, us, rfl, off, hl, du⟩
      rw [List.length_map, List.take_of_length_le (Nat.le_refl _)] at du
      have off2 : OffA m am H H3 := ⟨fun y o e n1 n2 n3 n4 => off _ _ (s2 _ _ (a1.off.st y o e n1 n2 n3 n4)) (fun z => by rw [z] at e; rw [nl0] at e; cases e), fun y e => a2.off.dm y (by
        cases z : H2 y with
        | none => rfl
        | some o =>
          by_cases c : y = l
          · rw [c, hl] at e
            cases e
          · rw [off y o z c] at e
            cases e)⟩
      have fk3 : FzK H2 H3 := fun b' ob u e => off b' _ e (ne_of e g2 (fun z => nomatch z))
      have mx3 : Mst K H3 m (logged st wr wd) am := by
        obtain ⟨v1, e1, d1⟩ := a2.hx.lg
        obtain ⟨v2, e2, d2⟩ := a2.hx.qu
        obtain ⟨v3, e3, d3⟩ := a2.hx.an
        obtain ⟨_, f1, _⟩ := a1.hx.lg
        obtain ⟨_, f2, _⟩ := a1.hx.qu
        obtain ⟨_, f3, _⟩ := a1.hx.an
        have f := fz_keep fk3
        exact ⟨off _ _ a2.hx.at_ (ol a1.hx.at_), off _ _ a2.hx.lk lkn, ⟨v1, off _ _ e1 (ol f1), d1.same f⟩, a2.hx.jn.same f, ⟨v2, off _ _ e2 (ol f2), d2.same f⟩, ⟨v3, off _ _ e3 (ol f3), d3.same f⟩, a2.hx.sep⟩
      exact ⟨_, rfl, q H3 l us ⟨off2, NewA.refl, a2.fk.trans fk3, mx3⟩ nl0 hl du⟩
end
end My

namespace My
open PySem PySem.Spec PyProof.Rows L2 Gy Xl Xs Xt Xo Xp Xu
section
variable {P : Program} {w : World} {K : PySem.W.Frag} {mg : Str → Option Value} {base : Heap} {H H1 H2 : Hp}
theorem cut_13 (a b c d : V) : cutV [a, b, c, d] (some 1) (some 3) = [b, c] := rfl
def spRecM (K : PySem.W.Frag) : Sp := fun vs H Q _ => ∃ (m ia : Addr) (s w x : Str) (st : HS) (am : HA), vs = [.ref m, .str s, .ref ia] ∧ Mst K H m st am ∧ Free st ∧ Tz H ia [.str "message", .str w, .str x, .int 0] ∧
  ∀ H' L us, Am K m am H H' (logged st w x) am → H L = none → H' L = some (.lst us) → Dns K (fz H') us (spread st (some s) w x) → Q (.ref L) H'
theorem ok_recM {f : Addr} {fd : FuncData} (F : Fun K "_law_received" "_law_received" s_law_received f fd) (Y : Bn mg) (G_law_awaited : Fk P w K mg base CX0 1 "_law_awaited" ["_law_model"] (spAw K)) (G_law_asked : Fk P w K mg base CX0 1 "_law_asked" ["_law_model", "_law_source", "_law_item"] spNo)
    (G_law_spread : Fk P w K mg base CX0 2 "_law_spread" ["_law_model", "_law_message", "_law_source", "_law_bit_here"] (spSprM K)) (G_law_agreed : Fk P w K mg base CX0 1 "_law_agreed" ["_law_model", "_law_item"] spNo) (G_law_gone_on : Fk P w K mg base CX0 1 "_law_gone_on" ["_law_model", "_law_item"] spNo)
    (G_law_freed : Fk P w K mg base CX0 1 "_law_freed" ["_law_model"] spNo) (G_law_finished : Fk P w K mg base CX0 1 "_law_finished" ["_law_model", "_law_outcome"] spNo) (G_law_unlinked : Fk P w K mg base CX0 1 "_law_unlinked" ["_law_model", "_law_other"] (spLnk K fun xs o => xs.filter (· ≠ o))) (G_law_refused : Fk P w K mg base CX0 1 "_law_refused" ["_law_model"] spNo) :
    FnOk P w K mg base CX0 3 f fd ["_law_model", "_law_source", "_law_item"] (spRecM K) := by
  refine F.ok sc_law_received (fun vs H Q E h => ?_) (fun cdv A outer s H vs Q E hr h => ?_)
  · obtain ⟨m, ia, s, w, x, st, am, rfl, _⟩ := h
    rfl
  · obtain ⟨m, ia, src, wr, wd, st, am, rfl, mx, fr, it, q⟩ := h
    have hu1 := hu_of hr
    have hu64 := hr.units
    refine ⟨_, (pss_cons (ps_if (pt_cmpR op_eq (pe_callF G_law_awaited (hr.mono (by decide)) (by rfl) pass0 (pa_cons (pv 0) pa_nil)) (pv 1) (nomark _))
 (pss_cons (ps_expr (pe_bm PySem.F.plainAttrs_list PySem.F.slot_list_append PySem.F.type_list_append mt_append (pe_dget hu1 (pv 0) pe_str (fun _ _ => rfl)) (pa_cons (pv 2) pa_nil)))
 (pss_one (ps_ret (pe_lst pa_nil))))
 pss_nil)
 (pss_cons (ps_if (pt_cmpR op_eq (pe_ix ix_tup (pv 2) pe_int (fun _ _ => rfl)) pe_str (nomark _))
 (pss_one (ps_ret (pe_callF G_law_spread (hr.mono (by decide)) (by rfl) pass0 (pa_cons (pv 0) (pa_cons (pe_slice sl_cutA (pv 2) (po_some pe_int) (po_some pe_int)) (pa_cons (pv 1) (pa_cons (pe_ix ix_tup (pv 2) pe_int (fun _ _ => rfl)) pa_nil)))))))
 pss_nil)
 (pss_cons (ps_if (pt_cmpR op_eq (pe_ix ix_tup (pv 2) pe_int (fun _ _ => rfl)) pe_str (nomark _))
 (pss_one (ps_ret (pe_callF G_law_asked (hr.mono (by decide)) (by rfl) pass0 (pa_cons (pv 0) (pa_cons (pv 1) (pa_cons (pv 2) pa_nil))))))
 pss_nil)
 (pss_cons (ps_if (pt_cmpR op_eq (pe_ix ix_tup (pv 2) pe_int (fun _ _ => rfl)) pe_str (nomark _))
 (pss_one (ps_ret (pe_callF G_law_agreed (hr.mono (by decide)) (by rfl) pass0 (pa_cons (pv 0) (pa_cons (pv 2) pa_nil)))))
 pss_nil)
 (pss_cons (ps_if (pt_cmpR op_eq (pe_ix ix_tup (pv 2) pe_int (fun _ _ => rfl)) pe_str (nomark _))
 (pss_one (ps_ret (pe_callF G_law_gone_on (hr.mono (by decide)) (by rfl) pass0 (pa_cons (pv 0) (pa_cons (pv 2) pa_nil)))))
 pss_nil)
 (pss_cons (ps_if (pt_cmpR op_eq (pe_ix ix_tup (pv 2) pe_int (fun _ _ => rfl)) pe_str (nomark _))
 (pss_cons (ps_set (i := 3) sc_law_received.nd rfl (.inl rfl) (pe_tm PySem.F.slot_tuple_index PySem.F.type_tuple_index mt_tup_index (pe_ix ix_tup (pv 2) pe_int (fun _ _ => rfl)) (pa_cons (pe_dget hu1 (pv 0) pe_str (fun _ _ => rfl)) pa_nil)))
 (pss_one (ps_ret (pe_ifExp (pt_cmpR op_gt (pv 3) pe_int (nomark _)) (pe_op op_cat (pe_callF G_law_freed (hr.mono (by decide)) (by rfl) pass0 (pa_cons (pv 0) pa_nil)) (pe_lst (pa_cons (pe_tupZ (pa_cons (pe_ix ix_tup (pe_ix ix_tup (pv 2) pe_int (fun _ _ => rfl)) (pe_op op_sub (pv 3) pe_int) (fun _ _ => rfl)) (pa_cons (pv 2) pa_nil))) pa_nil))) (pe_callF G_law_finished (hr.mono (by decide)) (by rfl) pass0 (pa_cons (pv 0) (pa_cons pe_str pa_nil)))))))
 pss_nil)
 (pss_cons (ps_if (pt_cmpR op_eq (pe_ix ix_tup (pv 2) pe_int (fun _ _ => rfl)) pe_str (nomark _))
 (pss_cons (ps_expr (pe_callF G_law_unlinked (hr.mono (by decide)) (by rfl) pass0 (pa_cons (pv 0) (pa_cons (pv 1) pa_nil))))
 (pss_cons (ps_set (i := 4) sc_law_received.nd rfl (.inl rfl) (pe_ifExp (pt_cmpR op_eq (pe_dget hu1 (pv 0) pe_str (fun _ _ => rfl)) pe_str (nomark _)) (pe_ix ix_tup (pe_dget hu1 (pv 0) pe_str (fun _ _ => rfl)) pe_int (fun _ _ => rfl)) (pe_tupZ pa_nil)))
 (pss_one (ps_if (PW.pt (pw_or (pt_cmpR op_notIn_seq (pv 1) (pv 4) rfl) (pw_or1 (pt_cmpR op_ne (pe_tm PySem.F.slot_tuple_index PySem.F.type_tuple_index mt_tup_index (pv 4) (pa_cons (pv 1) pa_nil)) (pe_op op_add (pe_tm PySem.F.slot_tuple_index PySem.F.type_tuple_index mt_tup_index (pv 4) (pa_cons (pe_dget hu1 (pv 0) pe_str (fun _ _ => rfl)) pa_nil)) pe_int) (nomark _)))))
 (pss_one (ps_ret (pe_lst pa_nil)))
 pss_nil))))
 pss_nil)
 (pss_one (ps_ret (pe_callF G_law_refused (hr.mono (by decide)) (by rfl) pass0 (pa_cons (pv 0) pa_nil))))))))))), ?_⟩
    have aw : awt st = none := by
      unfold awt
      rw [fr.jn]
    refine ⟨_, rfl, m, st, am, rfl, mx, (fun xs c e => by rw [fr.jn] at e; cases e), _, rfl, (by rw [aw]; rfl), _, rfl, ?_⟩
    rw [aw]
    refine iteF ⟨_, rfl, ia, _, 0, _, rfl, rfl, it.sq, atI_nat (j := 0) rfl, rfl, _, rfl, iteT ?_⟩
    refine ⟨_, rfl, _, rfl, 1, rfl, 3, rfl, ia, _, rfl, it, And.symm (rcut_of it (cut_13 _ _ _ _) fun t H1 s1 z1 => ?_)⟩
    refine ⟨_, rfl, _, rfl, ia, _, 3, _, rfl, rfl, (it.same s1).sq, atI_nat (j := 3) rfl, ?_⟩
    refine ⟨m, t, some src, wr, wd, .int 0, st, am, rfl, mx.same s1, fr, z1, fun H2 L us a2 nL eL du => ?_⟩
    exact q H2 L us (Am.back s1 a2) (same_no s1 nL) eL du
end
end My

/-! Dicts whose keys are pairs of texts: setdefault, pop of a key that is there, del. -/
namespace Xd
open PySem PySem.Spec PyProof.Rows L2 Gy Xt
section
variable {X : Cx}
theorem has_of {H : Hp} {kvs : List (List L2.Key × V)} {ys : List (List L2.Key × Addr × Value)} (rel : KT H kvs ys) {k : List L2.Key} {p : Addr × Value} (hp : atKey ys k = some p) : ∃ v, valV kvs k = some v ∧ RelV v p.2 := by
  have w := rel.val k
  rw [hp] at w
  cases ev : valV kvs k with
  | some v =>
    rw [ev] at w
    exact ⟨v, rfl, w⟩
  | none =>
    rw [ev] at w
    exact False.elim w
theorem no_of {H : Hp} {kvs : List (List L2.Key × V)} {ys : List (List L2.Key × Addr × Value)} (rel : KT H kvs ys) {k : List L2.Key} (hp : atKey ys k = none) : valV kvs k = none := by
  have w := rel.val k
  rw [hp] at w
  cases ev : valV kvs k with
  | none => rfl
  | some v =>
    rw [ev] at w
    exact False.elim w
theorem is_of {H : Hp} {kvs : List (List L2.Key × V)} {ys : List (List L2.Key × Addr × Value)} (rel : KT H kvs ys) {k : List L2.Key} {v : V} (e : valV kvs k = some v) : ∃ p, atKey ys k = some p ∧ RelV v p.2 := by
  cases h : atKey ys k with
  | some p =>
    obtain ⟨u, e2, r⟩ := has_of rel h
    rw [e] at e2
    cases e2
    exact ⟨p, rfl, r⟩
  | none =>
    rw [no_of rel h] at e
    cases e
/-- d.setdefault(k, x) -/
def rSetd : V → List V → Hp → VK → Prop := fun x xs H Q => ∃ (a b : Addr) (kvs : List (List L2.Key × V)) (k : List L2.Key) (y : V), x = .ref a ∧ xs = [.ref b, y] ∧ H a = some (.dT kvs) ∧ H b = some (.tup (k.map kV)) ∧ kvs.length < sizeLine ∧
  (∀ v, valV kvs k = some v → Q v H) ∧ (valV kvs k = none → Q y (upd H a (.dT (putK kvs k y))))
theorem mt_setd (hu : X.A.units + 1 < cLine) : MtR X "dict.setdefault" rSetd := by
  intro pn s sl G x ys v us Q inv rx rys h
  obtain ⟨a, b, kvs, k, y, rfl, rfl, ha, hb, lt, q1, q2⟩ := h
  cases rx
  obtain ⟨w1, w2, rfl, y1, y2⟩ := vals2 rys
  cases y1
  obtain ⟨z, nsys, zs, rel, dd⟩ := dt_of inv.hok ha
  refine call_setdefault_heap (knd := tupleKind (mixKind X.prog X.w)) (k := k) (tupleKind_room_in1 hu) (key_of inv.hok hb) nsys dd (fun p hp => ?_) (fun hn h' dd' sb => ?_) (by rw [← Paired.length rel]; exact z)
  · obtain ⟨v0, ev, rv⟩ := has_of rel hp
    exact ⟨v0, G, inv.tok _, rv, q1 v0 ev⟩
  · obtain ⟨o, es, ep, g1, g2, g3, g4, _, g5⟩ := dd'
    have ll := length_putK kvs k y
    refine ⟨y, upd G a (.dT (putK kvs k y)), d_write inv (by rw [ha]; exact True.intro) sb ⟨o, g1⟩ ⟨by omega, nsys, _, (rel.put k hb y2).keeps fun c ws ec => ?_, o, es, ep, g1, g2, g3, g4, g5⟩, y2, q2 (no_of rel hn)⟩
    rw [upd_ne (ne_of ec ha (fun w => nomatch w))]
    exact ec
/-- d.pop(k), k there -/
def rPop1 : V → List V → Hp → VK → Prop := fun x xs H Q => ∃ (a b : Addr) (kvs : List (List L2.Key × V)) (k : List L2.Key) (v : V), x = .ref a ∧ xs = [.ref b] ∧ H a = some (.dT kvs) ∧ H b = some (.tup (k.map kV)) ∧ valV kvs k = some v ∧ Q v (upd H a (.dT (dropK kvs k)))
theorem mt_pop1 (hu : X.A.units + 1 < cLine) : MtR X "dict.pop" rPop1 := by
  intro pn s sl G x ys v us Q inv rx rys h
  obtain ⟨a, b, kvs, k, v0, rfl, rfl, ha, hb, ev, q1⟩ := h
  cases rx
  obtain ⟨w1, rfl, y1⟩ := vals1 rys
  cases y1
  obtain ⟨z, nsys, zs, rel, dd⟩ := dt_of inv.hok ha
  obtain ⟨p, hp, rv⟩ := is_of rel ev
  refine call_pop_heap (knd := tupleKind (mixKind X.prog X.w)) (k := k) (.inl rfl) (PySem.F.args_dict_pop_2 _ _) (tupleKind_room_in1 hu) (key_of inv.hok hb) nsys dd hp (fun h' dd' sb => ?_) (by rw [← Paired.length rel]; exact z)
  obtain ⟨o, es, ep, g1, g2, g3, g4, _, g5⟩ := dd'
  refine ⟨v0, _, d_write inv (ob := .dT (dropK kvs k)) (by rw [ha]; exact True.intro) sb ⟨o, g1⟩ ⟨Nat.le_trans (dropK_le kvs k) z, nsys, _, (DX.KT_drop k rel).keeps fun c ws ec => ?_, o, es, ep, g1, g2, g3, g4, g5⟩, rv, q1⟩
  rw [upd_ne (ne_of ec ha (fun w => nomatch w))]
  exact ec
/-- del d[k] -/
def tDelT (to ti : TE) : TS := fun D σ H => to σ H fun x H1 => ti σ H1 fun y H2 => ∃ (a b : Addr) (kvs : List (List L2.Key × V)) (k : List L2.Key) (v : V), x = .ref a ∧ y = .ref b ∧ H2 a = some (.dT kvs) ∧ H2 b = some (.tup (k.map kV)) ∧ valV kvs k = some v ∧ D.nx σ (upd H2 a (.dT (dropK kvs k)))
theorem ps_delT {oe ie : Expr} {to ti : TE} {p1 p2 : Pos} (hu : X.A.units + 1 < cLine) (ho : PE X oe to) (hi : PE X ie ti) : PS X (.Delete [.Subscript oe ie p1] p2) (tDelT to ti) := by
  constructor
  intro pn z sl G en inv rd
  refine wpAny_Delete (wpAny_deleteEach_cons (wpAny_delete_Subscript (thn (ho.run pn z sl G _ inv rd) fun u z1 ⟨x, G1, inv1, rx, r1⟩ => ?_)))
  refine thn (hi.run pn z1 sl G1 _ inv1 r1) fun w z2 ⟨y, G2, inv2, ry, r2⟩ => ?_
  obtain ⟨a, b, kvs, k, v, rfl, rfl, ha, hb, ev, q⟩ := r2
  cases rx
  cases ry
  obtain ⟨z0, nsys, ys, rel, dd⟩ := dt_of inv2.hok ha
  obtain ⟨p, hp, rv⟩ := is_of rel ev
  refine wpAny_delItem_heap (knd := tupleKind (mixKind X.prog X.w)) (k := k) (tupleKind_room_in1 hu) (key_of inv2.hok hb) nsys dd hp (fun h' dd' sb => wpAny_deleteEach_nil ⟨sl, _, ?_, q⟩) (by rw [← Paired.length rel]; exact z0)
  obtain ⟨o, es, ep, g1, g2, g3, g4, _, g5⟩ := dd'
  refine d_write inv2 (ob := .dT (dropK kvs k)) (by rw [ha]; exact True.intro) sb ⟨o, g1⟩ ⟨Nat.le_trans (dropK_le kvs k) z0, nsys, _, (DX.KT_drop k rel).keeps fun c ws ec => ?_, o, es, ep, g1, g2, g3, g4, g5⟩
  rw [upd_ne (ne_of ec ha (fun w => nomatch w))]
  exact ec
end
end Xd

/-! sorted of a dict whose keys are pairs of texts. -/
namespace Xd
open PySem PySem.Spec PyProof.Rows L2 Gy Xt Xp Srt SrtO
/-- a pair of texts that is a key -/
def Kp (H : Hp) (v : V) (p : Str × Str) : Prop := ∃ t, v = .ref t ∧ H t = some (.tup [.str p.1, .str p.2])
def Kps (H : Hp) : List V → List (Str × Str) → Prop := Paired (Kp H)
def kq (p : Str × Str) : List L2.Key := [.inr p.1, .inr p.2]
theorem Kp.same {H H' : Hp} {v : V} {p : Str × Str} (h : Kp H v p) (s : Same H H') : Kp H' v p := by
  obtain ⟨t, e, a⟩ := h
  exact ⟨t, e, s _ _ a⟩
theorem Kps.same {H H' : Hp} {vs : List V} {ps : List (Str × Str)} (h : Kps H vs ps) (s : Same H H') : Kps H' vs ps := by
  unfold Kps at h ⊢
  induction h with
  | nil => exact .nil
  | cons a _ ih => exact .cons (a.same s) ih
theorem Kps.len {H : Hp} {vs : List V} {ps : List (Str × Str)} (h : Kps H vs ps) : vs.length = ps.length := Paired.length h
def kpOf (H : Hp) : V → Str × Str
  | .ref t => match H t with
    | some (.tup [.str a, .str b]) => (a, b)
    | _ => ("", "")
  | _ => ("", "")
theorem Kp.of {H : Hp} {v : V} {p : Str × Str} (h : Kp H v p) : kpOf H v = p := by
  obtain ⟨t, rfl, e⟩ := h
  show (match H t with
    | some (.tup [.str a, .str b]) => (a, b)
    | _ => ("", "")) = p
  rw [e]
theorem Kps.map {H : Hp} {vs : List V} {ps : List (Str × Str)} (h : Kps H vs ps) : ps = vs.map (kpOf H) := by
  unfold Kps at h
  induction h with
  | nil => rfl
  | cons a _ ih => rw [List.map_cons, a.of, ← ih]
theorem Kps.mem {H : Hp} {vs : List V} {ps : List (Str × Str)} (h : Kps H vs ps) : ∀ v ∈ vs, Kp H v (kpOf H v) := by
  unfold Kps at h
  induction h with
  | nil => exact fun _ z => nomatch z
  | cons a _ ih =>
    intro v hv
    rcases List.mem_cons.mp hv with rfl | hv
    · rw [a.of]
      exact a
    · exact ih v hv
theorem Kps.of {H : Hp} : ∀ {vs : List V}, (∀ v ∈ vs, Kp H v (kpOf H v)) → Kps H vs (vs.map (kpOf H))
  | [], _ => .nil
  | v :: vs, h => .cons (h v List.mem_cons_self) (Kps.of fun u hu => h u (List.mem_cons_of_mem _ hu))
theorem keys_kps {H : Hp} {g : Str × Str → V} : ∀ {ks : List (Str × Str)} {bs : List Addr}, IsKeys H (ks.map fun k => (kq k, g k)) bs → Kps H (bs.map V.ref) ks
  | [], _, h => by
    cases h
    exact .nil
  | k :: ks, _, h => by
    cases h with
    | cons a t => exact .cons ⟨_, rfl, a⟩ (keys_kps t)
def rSortD : List V → Hp → VK → Prop := fun vs H Q => ∃ (a : Addr) (ks : List (Str × Str)) (g : Str × Str → V), vs = [.ref a] ∧ H a = some (.dT (ks.map fun k => (kq k, g k))) ∧
  ∀ (ys : List V) (qs : List (Str × Str)) (p : Addr), qs.Perm ks → qs.Pairwise leQ → Kps H ys qs → H p = none → Q (.ref p) (upd H p (.lst ys))
section
variable {X : Cx}
theorem cr_sortD (calm : X.calm = true) : CallR X (.builtin "sorted") rSortD := by
  intro pn s sl G vs us Q inv rv h
  obtain ⟨a, ks, g, rfl, ha, q⟩ := h
  obtain ⟨u, rfl, ru⟩ := vals1 rv
  cases ru
  obtain ⟨z, nsys, zs, rel, o, es, ep, ho, hx, hdt, he, _, hn⟩ := dt_of inv.hok ha
  have l1 : es.size = zs.length := size_of_entries he
  have l2 : zs.length ≤ sizeLine := by rw [← Paired.length rel]; exact z
  refine Calls.call_function_entry kind_sorted plain_sorted entry_sorted (args_sorted1 _) ?_
  unfold Builtin.«sorted»
  refine wpAny_bind (m := checkCount "sorted" 1 1 _) (wpAny_pure ?_)
  refine wpAny_bind (PySem.W.kdu_collect (A := X.A.in1) (kdl_raw nsys hx hdt) (inv.ok.hd calm) ho (by omega) fun h' tk acc keep items => ?_)
  have ea : acc.toList = zs.map fun x => Value.ref x.2.1 := by
    apply List.ext_getElem?
    intro j
    rw [List.getElem?_map]
    cases hj : acc.toList[j]? with
    | none =>
      have k1 := List.getElem?_eq_none_iff.mp hj
      have k2 : acc.toList.length = zs.length := by rw [Array.length_toList, items.1]; exact l1
      rw [List.getElem?_eq_none (by omega)]
      rfl
    | some v =>
      obtain ⟨en, hen, hv⟩ := items.2 j v (by rw [← Array.getElem?_toList]; exact hj)
      have qe := entry_at he j
      rw [hen] at qe
      cases hb : zs[j]? with
      | none =>
        rw [hb] at qe
        cases qe
      | some b =>
        rw [hb] at qe
        injection qe with qe
        rw [hv, qe]
        rfl
  have kp := keys_kps (isKeys_of rel)
  have inv1 : Inv X pn sl G { s with heap := h', toks := tk } := inv.kept keep
  have eb : acc.toList = (zs.map fun x => x.2.1).map Value.ref := by
    rw [ea, List.map_map]
    rfl
  have lb : (zs.map fun x => x.2.1).length = zs.length := List.length_map ..
  generalize zs.map (fun x => x.2.1) = bs at kp eb lb
  have bk : ∀ cs : List Addr, (cs.map Value.ref).map backV = cs.map V.ref := fun cs => by
    rw [List.map_map]
    rfl
  have hm := kp.mem
  have lz : acc.toList.length ≤ sizeLine := by rw [eb, List.length_map, lb]; exact l2
  refine wpAny_bind (wpAny_newList ?_ lz)
  have oL : (h'.push (seqObj "list" acc.toList.toArray 0)).get? h'.objs.size = some (seqObj "list" acc.toList.toArray 0) := Heap.get?_push_size _ rfl
  show wpAny _ _ _ _ _ { s with heap := h'.push (seqObj "list" acc.toList.toArray 0), toks := tk }
  have isp : ∀ v ∈ acc.toList, IsPr (h'.push (seqObj "list" acc.toList.toArray 0)) v (kpOf G (backV v)).1 (kpOf G (backV v)).2 := fun v hv => by
    rw [eb] at hv
    obtain ⟨c, hc, rfl⟩ := List.mem_map.mp hv
    obtain ⟨t, et, gt⟩ := hm (.ref c) (List.mem_map_of_mem hc)
    cases et
    obtain ⟨_, its, r2, oo, g1, g2, n, g3⟩ := (show ObjOk X.prog X.w G h' c (.tup [.str (kpOf G (V.ref c)).1, .str (kpOf G (V.ref c)).2]) from inv1.hok c _ gt)
    obtain ⟨u1, u2, rfl, ri, rj⟩ := vals2 r2
    obtain ⟨t1, rfl⟩ := ri
    obtain ⟨t2, rfl⟩ := rj
    exact ⟨c, oo, t1, t2, n, rfl, Heap.get?_push_of_some _ g1, g2, g3⟩
  refine wpAny_bind (wpAny_holding (wpAny_call_entry slot_list_sort ⟨_, oL, rfl⟩ entry_list_sort (list_sort_ord (s := { s with heap := h'.push (seqObj "list" acc.toList.toArray 0), toks := tk }) (lexS_swo fun v => kpOf G (backV v)) oL lz (fun h2 => pr_sortable (by omega) isp fun oo eo c => by
    rw [oL] at eo
    cases eo
    exact absurd (Value.type.inj c) (by decide)) fun out s1 s2 => ⟨_, rfl, ?_⟩) (args_list_sort _)))
  obtain ⟨e', he'⟩ := sortedHeap_at (vs := acc.toList) (out := out.toArray) oL
  have rf : ∀ v ∈ out, ∃ c, v = Value.ref c := fun v hv => by
    have hv := s2.perm.mem_iff.mp hv
    rw [eb] at hv
    obtain ⟨c, _, rfl⟩ := List.mem_map.mp hv
    exact ⟨c, rfl⟩
  have pm : (out.map backV).Perm (bs.map V.ref) := by
    have w := s2.perm.map backV
    rw [eb, bk] at w
    exact w
  have ky : Kps G (out.map backV) ((out.map backV).map (kpOf G)) := Kps.of fun v hv => hm v (pm.mem_iff.mp hv)
  have pk : ((out.map backV).map (kpOf G)).Perm ks := by
    rw [kp.map]
    exact pm.map _
  refine wpAny_pure ⟨_, rfl, .ref h'.objs.size, upd G h'.objs.size (.lst (out.map backV)), inv1.laid (t' := tk) (fun b w e => ?_) (Nat.le_refl _) (show ObjOk X.prog X.w _ _ _ (.lst (out.map backV)) from ⟨?_, out, e', vals_back rf, he'⟩), rfl, q _ _ _ pk ?_ ky (inv1.hok.fresh (Nat.le_refl _))⟩
  · have hb : b < h'.objs.size := Heap.lt_size e
    rw [sortedHeap_old (Nat.ne_of_lt hb) (by rw [size_push']; exact Nat.lt_succ_of_lt hb)]
    exact Heap.get?_push_of_some _ e
  · rw [pm.length_eq, List.length_map, lb]
    exact l2
  · rw [List.map_map]
    exact List.pairwise_map.mpr s1
end
end Xd

namespace My
open PySem PySem.Spec PyProof.Rows L2 Gy Xd
def ckv (ks : List (Str × Str)) (ad : Str × Str → Addr) : List (List L2.Key × V) := ks.map fun k => (kq k, V.ref (ad k))
theorem kq_inj {p q : Str × Str} (h : kq p = kq q) : p = q := by
  injection h with h1 h2
  injection h2 with h2 _
  injection h1 with h1
  injection h2 with h2
  exact Prod.ext h1 h2
theorem ckv_val (ks : List (Str × Str)) (ad : Str × Str → Addr) (k : Str × Str) : valV (ckv ks ad) (kq k) = if k ∈ ks then some (.ref (ad k)) else none := by
  induction ks with
  | nil => rfl
  | cons j ks ih =>
    by_cases e : j = k
    · subst e
      rw [if_pos List.mem_cons_self]
      exact valV_pos rfl
    · have e2 : valV (ckv (j :: ks) ad) (kq k) = valV (ckv ks ad) (kq k) := valV_neg fun z => e (kq_inj z)
      rw [e2, ih]
      by_cases m : k ∈ ks
      · rw [if_pos m, if_pos (List.mem_cons_of_mem _ m)]
      · rw [if_neg m, if_neg fun z => m ((List.mem_cons.mp z).resolve_left fun w => e w.symm)]
theorem ckv_len (ks : List (Str × Str)) (ad : Str × Str → Addr) : (ckv ks ad).length = ks.length := List.length_map ..
def putKs (ks : List (Str × Str)) (k : Str × Str) : List (Str × Str) := if k ∈ ks then ks else ks ++ [k]
theorem ckv_snoc {ks : List (Str × Str)} {ad : Str × Str → Addr} {k : Str × Str} {l : Addr} (n : k ∉ ks) : putK (ckv ks ad) (kq k) (.ref l) = ckv (ks ++ [k]) (fun j => if j = k then l else ad j) := by
  have e : (ckv ks ad).any (fun kv => decide (kv.1 = kq k)) = false := by
    rw [List.any_eq_false]
    intro kv hkv
    obtain ⟨j, hj, rfl⟩ := List.mem_map.mp hkv
    rw [decide_eq_true_eq]
    exact fun z => n (by rw [← kq_inj z]; exact hj)
  unfold putK
  rw [e, if_neg Bool.false_ne_true]
  unfold ckv
  rw [List.map_append]
  congr 1
  · refine List.map_congr_left fun j hj => ?_
    dsimp only
    rw [if_neg fun z : j = k => n (by rw [← z]; exact hj)]
  · show [_] = [(kq k, V.ref (if k = k then l else ad k))]
    rw [if_pos rfl]
theorem ckv_at {ks : List (Str × Str)} {ad : Str × Str → Addr} {i : Nat} {k : List L2.Key} {v : V} (h : (ckv ks ad)[i]? = some (k, v)) : ∃ j, ks[i]? = some j ∧ k = kq j ∧ v = .ref (ad j) := by
  unfold ckv at h
  rw [List.getElem?_map] at h
  obtain ⟨j, hj, e⟩ := Option.map_eq_some_iff.mp h
  injection e with e1 e2
  exact ⟨j, hj, e1.symm, e2.symm⟩
end My

namespace My
open PySem PySem.Spec PyProof.Rows L2 Gy Xl Xs Xt Xo Xp Xu
/-! ### whose a cell is, and what stands when its owner changes it -/
inductive Tag where
  | ho (x : Str)
  | mo (x : Str)
  | ch (k : Str × Str)
  | pl (k : Str × Str)
  | dw
  | dh
  | dm
  | df
  | po
  | pr
  | pd
  | ot (n : Nat)
abbrev Tg := Addr → Option Tag
structure Kt (t : Tag → Prop) (τ τ' : Tg) (H H' : Hp) : Prop where
  st : ∀ a o, H a = some o → (∀ u, τ a = some u → ¬ t u) → H' a = some o
  tg : ∀ a, H a ≠ none → τ' a = τ a
  dm : ∀ a, H' a = none → H a = none
  fk : FzK H H'
  tk : (∀ a, τ a ≠ none → H a ≠ none) → ∀ a, τ' a ≠ none → H' a ≠ none
section
variable {K : PySem.W.Frag} {C : Addr} {H H1 H2 : Hp} {t t' : Tag → Prop} {τ τ1 τ2 : Tg} {x : Str} {h m : Addr} {st st' : HS}
theorem Kt.same (s : Same H H1) : Kt t τ τ H H1 := ⟨fun a o e _ => s a o e, fun _ _ => rfl, fun _ e => same_no s e, FzK.of s, fun k a n e => k a n (same_no s e)⟩
theorem Kt.refl : Kt t τ τ H H := Kt.same (Same.refl H)
theorem Kt.trans (a : Kt t τ τ1 H H1) (b : Kt t τ1 τ2 H1 H2) : Kt t τ τ2 H H2 := by
  refine ⟨fun y o e n => b.st y o (a.st y o e n) fun u eu => ?_, fun y n => ?_, fun y e => a.dm y (b.dm y e), a.fk.trans b.fk, fun k => b.tk (a.tk k)⟩
  · exact n u (by rw [← a.tg y (by rw [e]; exact fun z => nomatch z)]; exact eu)
  · rw [b.tg y (fun z => n (a.dm y z)), a.tg y n]
theorem Kt.mono (a : Kt t τ τ1 H H1) (i : ∀ u, t u → t' u) : Kt t' τ τ1 H H1 := ⟨fun y o e n => a.st y o e fun u eu tu => n u eu (i u tu), a.tg, a.dm, a.fk, a.tk⟩
/-- a cell with such a tag -/
theorem Kt.at_ (k : Kt t τ τ1 H H1) {a : Addr} {o : HO} {u : Tag} (e : H a = some o) (eu : τ a = some u) (n : ¬ t u) : H1 a = some o ∧ τ1 a = some u := ⟨k.st a o e fun v ev tv => by rw [eu] at ev; injection ev with ev; exact n (ev ▸ tv), by rw [k.tg a (by rw [e]; exact fun z => nomatch z)]; exact eu⟩
/-- a cell without a tag -/
theorem Kt.no_ (k : Kt t τ τ1 H H1) {a : Addr} {o : HO} (e : H a = some o) (eu : τ a = none) : H1 a = some o ∧ τ1 a = none := ⟨k.st a o e (fun v ev => by rw [eu] at ev; cases ev), by rw [k.tg a (by rw [e]; exact fun z => nomatch z)]; exact eu⟩
/-- a host, all of whose cells are its own -/
structure HwA (K : PySem.W.Frag) (C : Addr) (H : Hp) (τ : Tg) (h : Addr) (x : Str) (st : HS) (ad : HA) : Prop where
  hs : Hst K C H h st ad
  t0 : τ h = some (.ho x)
  t : ∀ a ∈ [ad.Lk, ad.Ll, ad.Lq, ad.La], τ a = some (.ho x)
def Hw (K : PySem.W.Frag) (C : Addr) (H : Hp) (τ : Tg) (h : Addr) (x : Str) (st : HS) : Prop := ∃ ad, HwA K C H τ h x st ad
structure MwA (K : PySem.W.Frag) (H : Hp) (τ : Tg) (m : Addr) (x : Str) (st : HS) (am : HA) : Prop where
  hs : Mst K H m st am
  t0 : τ m = some (.mo x)
  t : ∀ a ∈ [am.Lk, am.Ll, am.Lq, am.La], τ a = some (.mo x)
def Mw (K : PySem.W.Frag) (H : Hp) (τ : Tg) (m : Addr) (x : Str) (st : HS) : Prop := ∃ am, MwA K H τ m x st am
theorem Hw.keep (w : Hw K C H τ h x st) (k : Kt t τ τ1 H H1) (n : ¬ t (.ho x)) : Hw K C H1 τ1 h x st := by
  obtain ⟨ad, hx, t0, tt⟩ := w
  obtain ⟨v1, a1, b1⟩ := hx.lg
  obtain ⟨v2, a2, b2⟩ := hx.qu
  obtain ⟨v3, a3, b3⟩ := hx.an
  have f := fz_keep k.fk
  have k0 := k.at_ hx.at_ t0 n
  have k1 := k.at_ hx.lk (tt ad.Lk (by simp)) n
  have k2 := k.at_ a1 (tt ad.Ll (by simp)) n
  have k3 := k.at_ a2 (tt ad.Lq (by simp)) n
  have k4 := k.at_ a3 (tt ad.La (by simp)) n
  refine ⟨ad, ⟨k0.1, k1.1, ⟨v1, k2.1, b1.same f⟩, hx.jn.same f, ⟨v2, k3.1, b2.same f⟩, ⟨v3, k4.1, b3.same f⟩, hx.sep⟩, k0.2, fun a ha => ?_⟩
  simp only [List.mem_cons, List.not_mem_nil, or_false] at ha
  rcases ha with rfl | rfl | rfl | rfl
  · exact k1.2
  · exact k2.2
  · exact k3.2
  · exact k4.2
theorem Mw.keep (w : Mw K H τ m x st) (k : Kt t τ τ1 H H1) (n : ¬ t (.mo x)) : Mw K H1 τ1 m x st := by
  obtain ⟨ad, hx, t0, tt⟩ := w
  obtain ⟨v1, a1, b1⟩ := hx.lg
  obtain ⟨v2, a2, b2⟩ := hx.qu
  obtain ⟨v3, a3, b3⟩ := hx.an
  have f := fz_keep k.fk
  have k0 := k.at_ hx.at_ t0 n
  have k1 := k.at_ hx.lk (tt ad.Lk (by simp)) n
  have k2 := k.at_ a1 (tt ad.Ll (by simp)) n
  have k3 := k.at_ a2 (tt ad.Lq (by simp)) n
  have k4 := k.at_ a3 (tt ad.La (by simp)) n
  refine ⟨ad, ⟨k0.1, k1.1, ⟨v1, k2.1, b1.same f⟩, hx.jn.same f, ⟨v2, k3.1, b2.same f⟩, ⟨v3, k4.1, b3.same f⟩, hx.sep⟩, k0.2, fun a ha => ?_⟩
  simp only [List.mem_cons, List.not_mem_nil, or_false] at ha
  rcases ha with rfl | rfl | rfl | rfl
  · exact k1.2
  · exact k2.2
  · exact k3.2
  · exact k4.2
open Classical in
/-- new cells are given to an owner -/
noncomputable def give (τ : Tg) (H : Hp) (u : Tag) (as : List Addr) : Tg := fun a => if H a = none ∧ a ∈ as then some u else τ a
theorem give_new {u : Tag} {as : List Addr} {a : Addr} (n : H a = none) (mm : a ∈ as) : give τ H u as a = some u := if_pos ⟨n, mm⟩
theorem give_old {u : Tag} {as : List Addr} {a : Addr} (n : H a ≠ none) : give τ H u as a = τ a := if_neg fun z => n z.1
theorem give_tk {u : Tag} {as : List Addr} (dm : ∀ a, H1 a = none → H a = none) (all : ∀ a ∈ as, H1 a ≠ none) (k : ∀ a, τ a ≠ none → H a ≠ none) : ∀ a, give τ H u as a ≠ none → H1 a ≠ none := fun a n e => by
  by_cases c : H a = none ∧ a ∈ as
  · exact all a c.2 e
  · exact k a (by rw [show give τ H u as a = τ a from if_neg c] at n; exact n) (dm a e)
/-- a host acts -/
theorem HwA.act {ad ad' : HA} (w : HwA K C H τ h x st ad) (c : Ac K C h ad H H1 st' ad') : ∃ τ1, Kt (· = .ho x) τ τ1 H H1 ∧ HwA K C H1 τ1 h x st' ad' := by
  obtain ⟨hx, t0, tt⟩ := w
  have some' : ∀ a ∈ [ad'.Lk, ad'.Ll, ad'.Lq, ad'.La], H1 a ≠ none := fun a ha e => by
    obtain ⟨_, a1, _⟩ := c.hx.lg
    obtain ⟨_, a2, _⟩ := c.hx.qu
    obtain ⟨_, a3, _⟩ := c.hx.an
    simp only [List.mem_cons, List.not_mem_nil, or_false] at ha
    rcases ha with rfl | rfl | rfl | rfl
    · rw [c.hx.lk] at e; cases e
    · rw [a1] at e; cases e
    · rw [a2] at e; cases e
    · rw [a3] at e; cases e
  have h0 : H h ≠ none := by rw [hx.at_]; exact fun z => nomatch z
  refine ⟨give τ H (.ho x) [ad'.Lk, ad'.Ll, ad'.Lq, ad'.La], ⟨fun a o e n => ?_, fun a n => give_old n, c.off.dm, c.fk, fun k => give_tk c.off.dm some' k⟩, c.hx, by rw [give_old h0]; exact t0, fun a ha => ?_⟩
  · have ne : ∀ b, τ b = some (.ho x) → a ≠ b := fun b eb z => n (.ho x) (z ▸ eb) rfl
    exact c.off.st a o e (ne h t0) (ne _ (tt ad.Ll (by simp))) (ne _ (tt ad.Lq (by simp))) (ne _ (tt ad.La (by simp)))
  · by_cases e : H a = none
    · exact give_new e ha
    · rw [give_old e]
      have old : ∀ {p q : Addr}, (q = p ∨ H q = none) → q = a → p ∈ [ad.Lk, ad.Ll, ad.Lq, ad.La] → τ a = some (.ho x) := fun {p q} z ea mp => by
        rcases z with z | z
        · rw [← ea, z]
          exact tt p mp
        · rw [ea] at z
          exact absurd z e
      simp only [List.mem_cons, List.not_mem_nil, or_false] at ha
      rcases ha with z | z | z | z
      · exact old c.nw.lk z.symm (by simp)
      · exact old c.nw.ll z.symm (by simp)
      · exact old c.nw.lq z.symm (by simp)
      · exact old c.nw.la z.symm (by simp)
theorem MwA.act {ad ad' : HA} (w : MwA K H τ m x st ad) (c : Am K m ad H H1 st' ad') : ∃ τ1, Kt (· = .mo x) τ τ1 H H1 ∧ MwA K H1 τ1 m x st' ad' := by
  obtain ⟨hx, t0, tt⟩ := w
  have some' : ∀ a ∈ [ad'.Lk, ad'.Ll, ad'.Lq, ad'.La], H1 a ≠ none := fun a ha e => by
    obtain ⟨_, a1, _⟩ := c.hx.lg
    obtain ⟨_, a2, _⟩ := c.hx.qu
    obtain ⟨_, a3, _⟩ := c.hx.an
    simp only [List.mem_cons, List.not_mem_nil, or_false] at ha
    rcases ha with rfl | rfl | rfl | rfl
    · rw [c.hx.lk] at e; cases e
    · rw [a1] at e; cases e
    · rw [a2] at e; cases e
    · rw [a3] at e; cases e
  have h0 : H m ≠ none := by rw [hx.at_]; exact fun z => nomatch z
  refine ⟨give τ H (.mo x) [ad'.Lk, ad'.Ll, ad'.Lq, ad'.La], ⟨fun a o e n => ?_, fun a n => give_old n, c.off.dm, c.fk, fun k => give_tk c.off.dm some' k⟩, c.hx, by rw [give_old h0]; exact t0, fun a ha => ?_⟩
  · have ne : ∀ b, τ b = some (.mo x) → a ≠ b := fun b eb z => n (.mo x) (z ▸ eb) rfl
    exact c.off.st a o e (ne m t0) (ne _ (tt ad.Ll (by simp))) (ne _ (tt ad.Lq (by simp))) (ne _ (tt ad.La (by simp)))
  · by_cases e : H a = none
    · exact give_new e ha
    · rw [give_old e]
      have old : ∀ {p q : Addr}, (q = p ∨ H q = none) → q = a → p ∈ [ad.Lk, ad.Ll, ad.Lq, ad.La] → τ a = some (.mo x) := fun {p q} z ea mp => by
        rcases z with z | z
        · rw [← ea, z]
          exact tt p mp
        · rw [ea] at z
          exact absurd z e
      simp only [List.mem_cons, List.not_mem_nil, or_false] at ha
      rcases ha with z | z | z | z
      · exact old c.nw.lk z.symm (by simp)
      · exact old c.nw.ll z.symm (by simp)
      · exact old c.nw.lq z.symm (by simp)
      · exact old c.nw.la z.symm (by simp)
end
/-! ### the law's world: hosts, their models, what is in flight -/
structure WA where
  D : Addr
  hD : Addr
  mD : Addr
  fD : Addr
  ha : Str → Addr
  ma : Str → Addr
  fa : Str × Str → Addr
/-- a dict from names to what stands at an address -/
def nkv (xs : List Str) (f : Str → Addr) : List (L2.Key × V) := xs.map fun x => (Sum.inr x, V.ref (f x))
theorem nkv_val (xs : List Str) (f : Str → Addr) (y : Str) : valV (nkv xs f) (.inr y) = if y ∈ xs then some (.ref (f y)) else none := by
  induction xs with
  | nil => rfl
  | cons j xs ih =>
    by_cases e : j = y
    · subst e
      rw [if_pos List.mem_cons_self]
      exact valV_pos rfl
    · have e2 : valV (nkv (j :: xs) f) (.inr y) = valV (nkv xs f) (.inr y) := valV_neg fun z => e (Sum.inr.inj z)
      rw [e2, ih]
      by_cases m : y ∈ xs
      · rw [if_pos m, if_pos (List.mem_cons_of_mem _ m)]
      · rw [if_neg m, if_neg fun z => m ((List.mem_cons.mp z).resolve_left fun w => e w.symm)]
theorem nkv_len (xs : List Str) (f : Str → Addr) : (nkv xs f).length = xs.length := List.length_map ..
def wkv (W : WA) : List (L2.Key × V) := [(.inr "hosts", .ref W.hD), (.inr "models", .ref W.mD), (.inr "flight", .ref W.fD)]
theorem wv_h (W : WA) : valV (wkv W) (.inr "hosts") = some (.ref W.hD) := by rfl
theorem wv_m (W : WA) : valV (wkv W) (.inr "models") = some (.ref W.mD) := by rfl
theorem wv_f (W : WA) : valV (wkv W) (.inr "flight") = some (.ref W.fD) := by rfl
structure Wd (K : PySem.W.Frag) (C : Addr) (H : Hp) (τ : Tg) (W : WA) (hs : List Str) (ks : List (Str × Str)) (fl : Str × Str → List PyData) (sh sm : Str → HS) : Prop where
  d : H W.D = some (.dK (wkv W))
  h : H W.hD = some (.dK (nkv hs W.ha))
  m : H W.mD = some (.dK (nkv hs W.ma))
  f : H W.fD = some (.dT (ckv ks W.fa))
  td : τ W.D = some .dw
  th : τ W.hD = some .dh
  tm : τ W.mD = some .dm
  tf : τ W.fD = some .df
  nd : hs.Nodup
  kn : ks.Nodup
  hw : ∀ x ∈ hs, Hw K C H τ (W.ha x) x (sh x)
  mw : ∀ x ∈ hs, Mw K H τ (W.ma x) x (sm x)
  fw : ∀ k ∈ ks, τ (W.fa k) = some (.ch k) ∧ ∃ us, H (W.fa k) = some (.lst us) ∧ Dns K (fz H) us (fl k)
  f0 : ∀ k, k ∉ ks → fl k = []
  tk : ∀ a, τ a ≠ none → H a ≠ none
section
variable {K : PySem.W.Frag} {C : Addr} {H H1 : Hp} {t : Tag → Prop} {τ τ1 : Tg} {W : WA} {hs : List Str} {ks : List (Str × Str)} {fl : Str × Str → List PyData} {sh sm : Str → HS} {x : Str} {st : HS}
theorem fw_keep (w : Wd K C H τ W hs ks fl sh sm) (k : Kt t τ τ1 H H1) (n : ∀ k, ¬ t (.ch k)) : ∀ k ∈ ks, τ1 (W.fa k) = some (.ch k) ∧ ∃ us, H1 (W.fa k) = some (.lst us) ∧ Dns K (fz H1) us (fl k) := fun j hj => by
  obtain ⟨a, us, b, c⟩ := w.fw j hj
  have z := k.at_ b a (n j)
  exact ⟨z.2, us, z.1, c.same (fz_keep k.fk)⟩
/-- what is none of its parts changes -/
theorem Wd.keep (w : Wd K C H τ W hs ks fl sh sm) (k : Kt t τ τ1 H H1) (n1 : ∀ x, ¬ t (.ho x)) (n2 : ∀ x, ¬ t (.mo x)) (n3 : ∀ k, ¬ t (.ch k)) (n4 : ¬ t .dw ∧ ¬ t .dh ∧ ¬ t .dm ∧ ¬ t .df) : Wd K C H1 τ1 W hs ks fl sh sm :=
  ⟨(k.at_ w.d w.td n4.1).1, (k.at_ w.h w.th n4.2.1).1, (k.at_ w.m w.tm n4.2.2.1).1, (k.at_ w.f w.tf n4.2.2.2).1, (k.at_ w.d w.td n4.1).2, (k.at_ w.h w.th n4.2.1).2, (k.at_ w.m w.tm n4.2.2.1).2, (k.at_ w.f w.tf n4.2.2.2).2, w.nd, w.kn, fun x hx => (w.hw x hx).keep k (n1 x), fun x hx => (w.mw x hx).keep k (n2 x), fw_keep w k n3, w.f0, k.tk w.tk⟩
theorem Wd.same (w : Wd K C H τ W hs ks fl sh sm) (s : Same H H1) : Wd K C H1 τ W hs ks fl sh sm := w.keep (t := fun _ => False) (Kt.same s) (fun _ z => z) (fun _ z => z) (fun _ z => z) ⟨id, id, id, id⟩
/-- a host has acted -/
theorem Wd.stepH (w : Wd K C H τ W hs ks fl sh sm) (k : Kt (· = .ho x) τ τ1 H H1) (hw : Hw K C H1 τ1 (W.ha x) x st) : Wd K C H1 τ1 W hs ks fl (fun y => if y = x then st else sh y) sm := by
  have n : ∀ {u : Tag}, (∀ y, u ≠ .ho y) → ¬ u = .ho x := fun h => h x
  refine ⟨(k.at_ w.d w.td (by simp)).1, (k.at_ w.h w.th (by simp)).1, (k.at_ w.m w.tm (by simp)).1, (k.at_ w.f w.tf (by simp)).1, (k.at_ w.d w.td (by simp)).2, (k.at_ w.h w.th (by simp)).2, (k.at_ w.m w.tm (by simp)).2, (k.at_ w.f w.tf (by simp)).2, w.nd, w.kn, fun y hy => ?_, fun y hy => (w.mw y hy).keep k (by simp), fw_keep w k (fun _ => by simp), w.f0, k.tk w.tk⟩
  by_cases e : y = x
  · rw [if_pos e, e]
    exact hw
  · rw [if_neg e]
    exact (w.hw y hy).keep k (fun z => e (Tag.ho.inj z))
theorem Wd.stepM (w : Wd K C H τ W hs ks fl sh sm) (k : Kt (· = .mo x) τ τ1 H H1) (hw : Mw K H1 τ1 (W.ma x) x st) : Wd K C H1 τ1 W hs ks fl sh (fun y => if y = x then st else sm y) := by
  refine ⟨(k.at_ w.d w.td (by simp)).1, (k.at_ w.h w.th (by simp)).1, (k.at_ w.m w.tm (by simp)).1, (k.at_ w.f w.tf (by simp)).1, (k.at_ w.d w.td (by simp)).2, (k.at_ w.h w.th (by simp)).2, (k.at_ w.m w.tm (by simp)).2, (k.at_ w.f w.tf (by simp)).2, w.nd, w.kn, fun y hy => (w.hw y hy).keep k (by simp), fun y hy => ?_, fw_keep w k (fun _ => by simp), w.f0, k.tk w.tk⟩
  by_cases e : y = x
  · rw [if_pos e, e]
    exact hw
  · rw [if_neg e]
    exact (w.mw y hy).keep k (fun z => e (Tag.mo.inj z))
end
end My

namespace My
open PySem PySem.Spec PyProof.Rows L2 Gy Xl Xs Xt Xo Xp Xu Xd
/-! ### items that are posted -/
def Tf (t : Tag) : Prop := t = .df ∨ ∃ k, t = .ch k
def addF (fl : Str × Str → List PyData) (k : Str × Str) (d : PyData) : Str × Str → List PyData := fun j => if j = k then fl j ++ [d] else fl j
def postK (src : Str) (gs : List (Str × PyData)) (ks : List (Str × Str)) : List (Str × Str) := gs.foldl (fun ks g => putKs ks (src, g.1)) ks
def postF (src : Str) (gs : List (Str × PyData)) (fl : Str × Str → List PyData) : Str × Str → List PyData := gs.foldl (fun fl g => addF fl (src, g.1) g.2) fl
def toP (gs : List (Str × PyData)) : List PyData := gs.map fun p => .tuple [.str p.1, p.2]
theorem postK_snoc {src : Str} {gs : List (Str × PyData)} {g : Str × PyData} {ks : List (Str × Str)} : postK src (gs ++ [g]) ks = putKs (postK src gs ks) (src, g.1) := by
  unfold postK
  rw [List.foldl_append]
  rfl
theorem postF_snoc {src : Str} {gs : List (Str × PyData)} {g : Str × PyData} {fl : Str × Str → List PyData} : postF src (gs ++ [g]) fl = addF (postF src gs fl) (src, g.1) g.2 := by
  unfold postF
  rw [List.foldl_append]
  rfl
theorem putKs_le {ks : List (Str × Str)} {k : Str × Str} : (putKs ks k).length ≤ ks.length + 1 := by
  unfold putKs
  split
  · omega
  · rw [List.length_append]
    exact Nat.le_refl _
theorem addF_le {fl : Str × Str → List PyData} {k j : Str × Str} {d : PyData} : (addF fl k d j).length ≤ (fl j).length + 1 := by
  unfold addF
  split
  · rw [List.length_append]
    exact Nat.le_refl _
  · omega
theorem postK_le {src : Str} {ks : List (Str × Str)} : ∀ {gs : List (Str × PyData)}, (postK src gs ks).length ≤ ks.length + gs.length := by
  intro gs
  induction gs generalizing ks with
  | nil => exact Nat.le_refl _
  | cons g gs ih =>
    have a := ih (ks := putKs ks (src, g.1))
    have b := putKs_le (ks := ks) (k := (src, g.1))
    show (postK src gs (putKs ks (src, g.1))).length ≤ ks.length + (gs.length + 1)
    omega
theorem postF_le {src : Str} {j : Str × Str} {fl : Str × Str → List PyData} : ∀ {gs : List (Str × PyData)}, (postF src gs fl j).length ≤ (fl j).length + gs.length := by
  intro gs
  induction gs generalizing fl with
  | nil => exact Nat.le_refl _
  | cons g gs ih =>
    have a := ih (fl := addF fl (src, g.1) g.2)
    have b := addF_le (fl := fl) (k := (src, g.1)) (j := j) (d := g.2)
    show (postF src gs (addF fl (src, g.1) g.2) j).length ≤ (fl j).length + (gs.length + 1)
    omega
section
variable {P : Program} {w : World} {K : PySem.W.Frag} {mg : Str → Option Value} {base : Heap} {C : Addr} {H H1 H2 : Hp} {t : Tag → Prop} {τ τ1 : Tg} {W : WA} {hs : List Str} {ks ks' : List (Str × Str)} {fl fl' : Str × Str → List PyData} {sh sm : Str → HS} {x : Str} {st : HS} {fa' : Str × Str → Addr}
/-- only what is in flight has changed -/
theorem Wd.fly (w : Wd K C H τ W hs ks fl sh sm) (k : Kt Tf τ τ1 H H1) (f : H1 W.fD = some (.dT (ckv ks' fa'))) (kn : ks'.Nodup) (fw : ∀ j ∈ ks', τ1 (fa' j) = some (.ch j) ∧ ∃ us, H1 (fa' j) = some (.lst us) ∧ Dns K (fz H1) us (fl' j)) (f0 : ∀ j, j ∉ ks' → fl' j = []) : Wd K C H1 τ1 { W with fa := fa' } hs ks' fl' sh sm := by
  have n : ∀ {u : Tag}, u ≠ .df → (∀ k, u ≠ .ch k) → ¬ Tf u := fun h1 h2 z => z.elim h1 fun ⟨k, e⟩ => h2 k e
  have n1 : ¬ Tf .dw := n (by simp) (by simp)
  have n2 : ¬ Tf .dh := n (by simp) (by simp)
  have n3 : ¬ Tf .dm := n (by simp) (by simp)
  exact ⟨(k.at_ w.d w.td n1).1, (k.at_ w.h w.th n2).1, (k.at_ w.m w.tm n3).1, f, (k.at_ w.d w.td n1).2, (k.at_ w.h w.th n2).2, (k.at_ w.m w.tm n3).2, by rw [k.tg W.fD (by rw [w.f]; exact fun z => nomatch z)]; exact w.tf, w.nd, kn, fun x hx => (w.hw x hx).keep k (n (by simp) (by simp)), fun x hx => (w.mw x hx).keep k (n (by simp) (by simp)), fw, f0, k.tk w.tk⟩
theorem Kt.updT {a : Addr} {o : HO} (k : Kt t τ τ1 H H1) (h : ∀ o', H a = some o' → (∃ u, τ a = some u ∧ t u) ∧ ∀ b c, o' ≠ .frz b c) : Kt t τ τ1 H (upd H1 a o) := by
  refine ⟨fun y o' e n => ?_, k.tg, fun y e => ?_, fun y b c e => ?_, fun z y n e => ?_⟩
  · by_cases c : y = a
    · subst c
      obtain ⟨⟨u, eu, tu⟩, _⟩ := h _ e
      exact absurd tu (n u eu)
    · rw [upd_ne c]
      exact k.st y o' e n
  · by_cases c : y = a
    · subst c
      rw [upd_same] at e
      cases e
    · rw [upd_ne c] at e
      exact k.dm y e
  · by_cases d : y = a
    · subst d
      exact absurd rfl ((h _ e).2 _ _)
    · rw [upd_ne d]
      exact k.fk y b c e
  · by_cases c : y = a
    · subst c
      rw [upd_same] at e
      cases e
    · rw [upd_ne c] at e
      exact k.tk z y n e
/-- a channel gets an item -/
theorem Wd.add {k : Str × Str} {v : V} {d : PyData} (w : Wd K C H τ W hs ks fl sh sm) (s : Same H H1) (dv : Dn K (fz H1) v d) (m : k ∈ ks) : ∃ us, H1 (W.fa k) = some (.lst us) ∧ us.length = (fl k).length ∧ Kt Tf τ τ H (upd H1 (W.fa k) (.lst (us ++ [v]))) ∧ Wd K C (upd H1 (W.fa k) (.lst (us ++ [v]))) τ W hs ks (addF fl k d) sh sm := by
  obtain ⟨a, us, b, c⟩ := w.fw k m
  have b1 := s _ _ b
  have kt : Kt Tf τ τ H (upd H1 (W.fa k) (.lst (us ++ [v]))) := (Kt.same s).updT fun o e => ⟨⟨_, a, .inr ⟨k, rfl⟩⟩, fun _ _ z => by rw [b] at e; injection e with e; rw [← e] at z; cases z⟩
  have fk1 : FzK H1 (upd H1 (W.fa k) (.lst (us ++ [v]))) := (FzK.refl H1).upd b1 (fun _ _ z => nomatch z)
  refine ⟨us, b1, Dns.len c, kt, ?_⟩
  refine w.fly (fa' := W.fa) kt ?_ w.kn (fun j hj => ?_) (fun j hj => ?_)
  · rw [upd_ne fun z => ?_]
    · exact s _ _ w.f
    · have := w.f
      rw [z, b] at this
      cases this
  · obtain ⟨a', us', b', c'⟩ := w.fw j hj
    refine ⟨a', ?_⟩
    by_cases e : j = k
    · subst e
      rw [b] at b'
      injection b' with b'
      injection b' with b'
      subst b'
      refine ⟨_, upd_same, ?_⟩
      unfold addF
      rw [if_pos rfl]
      exact dns_app ((c.same (fz_keep (FzK.of s))).same (fz_keep fk1)) (.cons (dv.same (fz_keep fk1)) .nil)
    · refine ⟨us', ?_, ?_⟩
      · rw [upd_ne fun z => ?_]
        · exact s _ _ b'
        · rw [z, a] at a'
          injection a' with a'
          injection a' with a'
          exact e a'.symm
      · unfold addF
        rw [if_neg e]
        exact (c'.same (fz_keep (FzK.of s))).same (fz_keep fk1)
  · unfold addF
    rw [if_neg fun z : j = k => hj (by rw [z]; exact m)]
    exact w.f0 j hj
theorem give_other {u : Tag} {as : List Addr} {a : Addr} (n : a ∉ as) : give τ H u as a = τ a := if_neg fun z => n z.2
theorem Wd.add0 {k : Str × Str} {v : V} {d : PyData} {l : Addr} (w : Wd K C H τ W hs ks fl sh sm) (s : Same H H1) (nl : H l = none) (el : H1 l = some (.lst [])) (dv : Dn K (fz H1) v d) (m : k ∉ ks) :
    H1 W.fD = some (.dT (ckv ks W.fa)) ∧ (upd H1 W.fD (.dT (putK (ckv ks W.fa) (kq k) (.ref l)))) l = some (.lst []) ∧
    Kt Tf τ (give τ H (.ch k) [l]) H (upd (upd H1 W.fD (.dT (putK (ckv ks W.fa) (kq k) (.ref l)))) l (.lst ([] ++ [v]))) ∧ Wd K C (upd (upd H1 W.fD (.dT (putK (ckv ks W.fa) (kq k) (.ref l)))) l (.lst ([] ++ [v]))) (give τ H (.ch k) [l]) { W with fa := fun j => if j = k then l else W.fa j } hs (ks ++ [k]) (addF fl k d) sh sm := by
  have f1 := s _ _ w.f
  have ne : l ≠ W.fD := fun z => by rw [z, w.f] at nl; cases nl
  have k0 : Kt Tf τ (give τ H (.ch k) [l]) H H1 := by
    have q := Kt.same (t := Tf) (τ := τ) s
    refine ⟨q.st, fun a n => give_old n, q.dm, q.fk, fun z => give_tk q.dm (fun a ha => ?_) z⟩
    rw [List.mem_singleton] at ha
    rw [ha, el]
    exact fun z => nomatch z
  have k1 := (k0.updT (a := W.fD) (o := .dT (putK (ckv ks W.fa) (kq k) (.ref l))) fun o e => ⟨⟨_, w.tf, .inl rfl⟩, fun _ _ z => by rw [w.f] at e; injection e with e; rw [← e] at z; cases z⟩).updT (a := l) (o := .lst ([] ++ [v])) fun o e => by rw [nl] at e; cases e
  refine ⟨f1, (upd_ne ne).trans el, k1, ?_⟩
  have fk1 : FzK H1 (upd H1 W.fD (.dT (putK (ckv ks W.fa) (kq k) (.ref l)))) := (FzK.refl H1).upd f1 (fun _ _ z => nomatch z)
  have fk2 : FzK H1 (upd (upd H1 W.fD (.dT (putK (ckv ks W.fa) (kq k) (.ref l)))) l (.lst ([] ++ [v]))) := fk1.upd el (fun _ _ z => nomatch z)
  refine w.fly k1 ?_ ?_ (fun j hj => ?_) (fun j hj => ?_)
  · rw [upd_ne fun z => ne z.symm, upd_same, ckv_snoc m]
  · exact List.nodup_append.mpr ⟨w.kn, List.nodup_cons.mpr ⟨(fun z => nomatch z), List.nodup_nil⟩, fun a ha b hb z => m (by rw [List.mem_singleton] at hb; rw [← hb, ← z]; exact ha)⟩
  · by_cases e : j = k
    · subst e
      rw [if_pos rfl]
      refine ⟨give_new nl (List.mem_singleton.mpr rfl), _, upd_same, ?_⟩
      unfold addF
      rw [if_pos rfl, w.f0 _ m]
      exact .cons (dv.same (fz_keep fk2)) .nil
    · have hj' : j ∈ ks := by
        rcases List.mem_append.mp hj with z | z
        · exact z
        · exact absurd (List.mem_singleton.mp z) e
      obtain ⟨a', us', b', c'⟩ := w.fw j hj'
      rw [if_neg e]
      refine ⟨?_, us', ?_, ?_⟩
      · rw [give_old (by rw [b']; exact fun z => nomatch z)]
        exact a'
      · rw [upd_ne fun z => ?_, upd_ne fun z => ?_]
        · exact s _ _ b'
        · rw [z, w.f] at b'
          cases b'
        · rw [z, nl] at b'
          cases b'
      · unfold addF
        rw [if_neg e]
        exact (c'.same (fz_keep (FzK.of s))).same (fz_keep fk2)
  · unfold addF
    rw [if_neg fun z => hj (List.mem_append_right _ (List.mem_singleton.mpr z))]
    exact w.f0 j fun z => hj (List.mem_append_left _ z)
theorem Wd.gH (w : Wd K C H τ W hs ks fl sh sm) : DGet H W.D (.str "hosts") (some (.ref W.hD)) := DGet.k (k := .inr "hosts") w.d
theorem Wd.gM (w : Wd K C H τ W hs ks fl sh sm) : DGet H W.D (.str "models") (some (.ref W.mD)) := DGet.k (k := .inr "models") w.d
theorem Wd.gF (w : Wd K C H τ W hs ks fl sh sm) : DGet H W.D (.str "flight") (some (.ref W.fD)) := DGet.k (k := .inr "flight") w.d
theorem Wd.gh {y : Str} (w : Wd K C H τ W hs ks fl sh sm) (m : y ∈ hs) : DGet H W.hD (.str y) (some (.ref (W.ha y))) := by
  have := DGet.k (k := .inr y) w.h
  rw [nkv_val, if_pos m] at this
  exact this
theorem Wd.gm {y : Str} (w : Wd K C H τ W hs ks fl sh sm) (m : y ∈ hs) : DGet H W.mD (.str y) (some (.ref (W.ma y))) := by
  have := DGet.k (k := .inr y) w.m
  rw [nkv_val, if_pos m] at this
  exact this
theorem Wd.gf {k : Str × Str} {b : Addr} (w : Wd K C H τ W hs ks fl sh sm) (m : k ∈ ks) (eb : H b = some (.tup ((kq k).map kV))) : DGet H W.fD (.ref b) (some (.ref (W.fa k))) := by
  have := DGet.t (k := kq k) w.f eb
  rw [ckv_val, if_pos m] at this
  exact this
def Tch (W : WA) (fa : Str × Str → Addr) : WA := { W with fa := fa }
def spPosted (K : PySem.W.Frag) (C : Addr) : Sp := fun vs H Q _ => ∃ (τ : Tg) (W : WA) (hs : List Str) (ks : List (Str × Str)) (fl : Str × Str → List PyData) (sh sm : Str → HS) (src : Str) (L : Addr) (us : List V) (gs : List (Str × PyData)), vs = [.ref W.D, .str src, .ref L] ∧ Wd K C H τ W hs ks fl sh sm ∧ H L = some (.lst us) ∧ τ L = none ∧ Dns K (fz H) us (toP gs) ∧ (∀ g ∈ gs, g.1 ∈ hs) ∧ gs.length ≤ 20 ∧ ks.length ≤ 400 ∧ (∀ k, (fl k).length ≤ 400) ∧
  ∀ H' τ' fa, Kt Tf τ τ' H H' → Wd K C H' τ' (Tch W fa) hs (postK src gs ks) (postF src gs fl) sh sm → Q .non H'
theorem post_pair {v : V} {g : Str × PyData} (d : Dn K H v (.tuple [.str g.1, g.2])) : ∃ t b, v = .ref t ∧ Tz H t [.str g.1, b] ∧ Dn K H b g.2 := by
  cases d with
  | tup h a =>
    cases a with
    | cons a1 t1 =>
      cases t1 with
      | cons a2 t2 =>
        cases t2
        cases a1
        exact ⟨_, _, rfl, h, a2⟩
theorem ok_posted {f : Addr} {fd : FuncData} (F : Fun K "_law_posted" "_law_posted" s_law_posted f fd) (Y : Bn mg) : FnOk P w K mg base CX0 1 f fd ["_law_world_here", "_law_source", "_law_sends"] (spPosted K C) := by
  refine F.ok sc_law_posted (fun vs H Q E h => ?_) (fun cdv A outer s H vs Q E hr h => ?_)
  · obtain ⟨τ, W, hs, ks, fl, sh, sm, src, L, us, gs, rfl, _⟩ := h
    rfl
  · obtain ⟨τ, W, hs, ks, fl, sh, sm, src, L, us, gs, rfl, wd, eL, tL, du, gm, gl, kl, fll, q⟩ := h
    have hu1 := hu_of hr
    refine ⟨_, (pss_one (ps_for PassesOwn.never rfl (pi_list (pv 2)) (pg_tup (by rfl) (pgs_cons (pg_name (i := 3) sc_law_posted.nd rfl (Or.inl rfl)) (pgs_cons (pg_name (i := 4) sc_law_posted.nd rfl (Or.inl rfl)) pgs_nil)))
 (pss_one (ps_if (pt_cmp (pc_din hu1 (pv 3) (pe_dget hu1 (pv 0) pe_str (fun _ _ => rfl))))
 (pss_one (ps_expr (pe_bm PySem.F.plainAttrs_list PySem.F.slot_list_append PySem.F.type_list_append mt_append (pe_bm PySem.F.plainAttrs_dict PySem.F.slot_dict_setdefault PySem.F.type_dict_setdefault (mt_setd hu1) (pe_dget hu1 (pv 0) pe_str (fun _ _ => rfl)) (pa_cons (pe_tup (pa_cons (pv 1) (pa_cons (pv 3) pa_nil))) (pa_cons (pe_lst pa_nil) pa_nil))) (pa_cons (pv 4) pa_nil))))
 pss_nil)))), ?_⟩
    have lu := Dns.len du
    have lg : (toP gs).length = gs.length := List.length_map ..
    refine ⟨_, rfl, L, rfl, ⟨_, SqL.of eL⟩, ?_⟩
    refine for_it (walk_list (K := K) (a := L) (xs := us)) (fun i σ H' => ∃ (a3 a4 : Option V) (τ' : Tg) (fa : Str × Str → Addr), σ = [some (.ref W.D), some (.str src), some (.ref L), a3, a4] ∧ Kt Tf τ τ' H H' ∧ Wd K C H' τ' (Tch W fa) hs (postK src (gs.take i) ks) (postF src (gs.take i) fl) sh sm)
      ⟨none, none, τ, W.fa, rfl, Kt.refl, wd⟩ (fun i σ H' _ hP => by obtain ⟨_, _, _, _, _, k, _⟩ := hP; exact SqL.of (k.no_ eL tL).1) ?_ ?_
    · rintro i y σ HA H3 hi ⟨a3, a4, τ3, fa, rfl, kt, w3⟩ ⟨rfl, hy⟩
      obtain ⟨d, hd, dn⟩ := Dns.get du hy
      unfold toP at hd
      rw [List.getElem?_map] at hd
      obtain ⟨g, hg, rfl⟩ := Option.map_eq_some_iff.mp hd
      obtain ⟨tt, b, rfl, ztt, db⟩ := post_pair dn
      have gmem := List.mem_of_getElem? hg
      have fk3 := fz_keep kt.fk
      have z3 := (ztt.same fk3).same (fz_same H3)
      have gin := gm _ gmem
      have tk : gs.take (i + 1) = gs.take i ++ [g] := by rw [List.take_add_one, hg]; rfl
      have len1 : (gs.take i).length ≤ gs.length := by rw [List.length_take]; omega
      have kl3 := postK_le (src := src) (ks := ks) (gs := gs.take i)
      have fl3 := postF_le (src := src) (fl := fl) (gs := gs.take i) (j := (src, g.1))
      have fl0 := fll (src, g.1)
      refine ⟨tt, _, rfl, z3.sq, rfl, _, _, rfl, _, _, rfl, rfl, ?_⟩
      refine ⟨_, rfl, _, rfl, W.D, _, rfl, w3.gH, W.hD, _, rfl, w3.gh gin, _, rfl, iteT ?_⟩
      refine ⟨_, rfl, W.D, _, rfl, w3.gF, .inr (.inr (.inl ⟨rfl, .inr ⟨_, w3.f⟩⟩)), _, rfl, _, rfl, (by show 2 ≤ sizeLine; decide), fun t nt => ?_⟩
      have s4 := same_upd (o := .tup [.str src, .str g.1]) nt
      have gt : (upd H3 t (.tup [.str src, .str g.1])) t = some (.tup ((kq (src, g.1)).map kV)) := upd_same
      generalize upd H3 t (.tup [.str src, .str g.1]) = H4 at s4 gt ⊢
      refine ⟨Nat.zero_le _, fun l nl => ?_⟩
      generalize hg5 : upd H4 l _ = H5
      obtain ⟨s5, g5⟩ := upd_new hg5 nl
      clear hg5
      have s35 := s4.trans s5
      have db5 := (db.same fk3).same (fz_keep (FzK.of s35))
      refine ⟨W.fD, t, _, kq (src, g.1), .ref l, rfl, rfl, s35 _ _ w3.f, s5 _ _ gt, by rw [ckv_len]; exact small200 (by omega), fun v hv => ?_, fun hn => ?_⟩
      · rw [ckv_val] at hv
        by_cases m : (src, g.1) ∈ postK src (gs.take i) ks
        · rw [if_pos m] at hv
          cases hv
          obtain ⟨us4, e4, l4, k4, w4⟩ := w3.add s35 db5 m
          refine ⟨.inl ⟨rfl, _, SqL.of e4⟩, _, rfl, fa (src, g.1), us4, b, rfl, rfl, e4, small200 (by omega), ?_⟩
          refine ⟨_, _, τ3, fa, rfl, kt.trans k4, ?_⟩
          rw [tk, postF_snoc, postK_snoc]
          unfold putKs
          rw [if_pos m]
          exact w4
        · rw [if_neg m] at hv
          cases hv
      · rw [ckv_val] at hn
        by_cases m : (src, g.1) ∈ postK src (gs.take i) ks
        · rw [if_pos m] at hn
          cases hn
        · obtain ⟨_, e4, k4, w4⟩ := w3.add0 s35 (same_no s4 nl) g5 db5 m
          refine ⟨.inl ⟨rfl, _, SqL.of e4⟩, _, rfl, l, [], b, rfl, rfl, e4, (by show 0 < sizeLine; decide), ?_⟩
          refine ⟨_, _, _, fun j => if j = (src, g.1) then l else fa j, rfl, kt.trans k4, ?_⟩
          rw [tk, postF_snoc, postK_snoc]
          unfold putKs
          rw [if_neg m]
          exact w4
    · rintro σ H3 ⟨a3, a4, τ3, fa, rfl, kt, w3⟩
      rw [lu, lg, List.take_of_length_le (Nat.le_refl _)] at w3
      exact q H3 τ3 fa kt w3
end
end My

/-! for k, v in d.items(), the keys of d tuples. -/
namespace L2
open PySem PySem.Spec PyProof.Rows
section
variable {X : Cx} {pins : List (Addr × Obj)} {σ : St} {H : Hp} {s : Shared} {d : Addr} {o : Obj}
theorem frzT2 {kvs : List (List Key × V)} (I : Inv X pins σ H s) (h : H d = some (.frz o (.dT kvs))) :
    (d == sysModules) = false ∧ s.heap.get? d = some o ∧ o.ExactDict ∧ ∃ (es : Array DictEntry) (ep : Nat), o.data = .dict es ep ∧ es.size = kvs.length ∧
      ∀ (i : Nat) (k : List Key) (v : V), kvs[i]? = some (k, v) → ∃ (en : DictEntry) (q : Addr), es[i]? = some en ∧ en.key = .ref q ∧ H q = some (.tup (k.map kV)) ∧ RelV v en.val := by
  obtain ⟨hd, z, hs, xs, pr, o', es, ep, ho, hx, hdt, he, _⟩ := I.hok d _ h
  rw [hd] at ho
  cases ho
  refine ⟨hs, hd, hx, es, ep, hdt, ?_, fun i k v e => ?_⟩
  · have l1 : es.size = xs.length := size_of_entries he
    have l2 : kvs.length = xs.length := Paired.length pr
    omega
  · obtain ⟨b, hb, e1, e2, e3⟩ := paired_get pr e
    have q := entry_at he i
    rw [hb] at q
    exact ⟨_, b.2.1, q, rfl, e2, e3⟩
/-- the pairs, each a new tuple, its first the key's own tuple -/
def ItiT (d : Addr) (o : Obj) (kvs : List (List Key × V)) : It :=
  ⟨fun i H => H d = some (.frz o (.dT kvs)) ∧ i < kvs.length, fun i H x H' => ∃ (T q : Addr) (k : List Key) (v : V), kvs[i]? = some (k, v) ∧ x = .ref T ∧ H T = none ∧ H q = some (.tup (k.map kV)) ∧ H' = upd H T (.tup [.ref q, v]), fun i H => H d = some (.frz o (.dT kvs)) ∧ kvs.length ≤ i⟩
theorem turn_itemsT {P : Program} {w : World} {K : PySem.W.Frag} {es : Array DictEntry} {ep : Nat} {kvs : List (List Key × V)} {elts : List Expr} {kk : Nat} {tpos : Pos} (it : Addr) (hod : o.data = .dict es ep) :
    Turn P w K (.Tuple elts kk tpos) (ItiT d o kvs) [it] it (fun i h => ∃ ok ov, IsItemIter h it d i kvs.length ep ok ov) where
  mem := by simp
  obj := fun i h st b hb => by
    have e : b = it := by simpa using hb
    subst e
    obtain ⟨ok, ov, e⟩ := st
    exact ⟨_, e, fun v z => nomatch z⟩
  keep := fun i h h' st k => let ⟨ok, ov, e⟩ := st; ⟨ok, ov, k it (by simp) _ e⟩
  item := by
    intro X hP hw hK hc i pins s σ H E I hf st hg
    subst hP hw hK
    obtain ⟨hd, hi⟩ := hg
    obtain ⟨hs, hgd, hx, es', ep', hdt, hsz, ent⟩ := frzT2 I hd
    obtain ⟨rfl, rfl⟩ := dict_ep hod hdt
    obtain ⟨⟨k, v⟩, hkv⟩ : ∃ p, kvs[i]? = some p := ⟨kvs[i], List.getElem?_eq_getElem hi⟩
    obtain ⟨en, q, hen, hkey, hq, ru⟩ := ent i k v hkv
    obtain ⟨ok, ov, he⟩ := st
    rw [← hsz] at he
    have hlt : it < s.heap.objs.size := Heap.lt_size he
    have hi2 : i < es'.size := by omega
    have een : es'[i] = en := by
      rw [Array.getElem?_eq_getElem hi2] at hen
      exact Option.some.inj hen
    refine wpAny_pyNext_items_item_raw he ⟨o, hgd, hx, hod⟩ hi2 fun h' ho hT hz hk => ?_
    rw [een, hkey] at ho hT
    refine ⟨_, rfl, wpAny_letOwnedTupleGo_items (s := { s with heap := h' }) ho fun h'' he' sb => ?_⟩
    have hT2 : h''.get? s.heap.objs.size = some { cls := .type "tuple", data := .seq #[.ref q, en.val] } := (sb.2 _ (Nat.ne_of_gt hlt)).trans hT
    have new : ObjOk X.prog X.w (upd H s.heap.objs.size (.tup [.ref q, v])) h'' s.heap.objs.size (.tup [.ref q, v]) :=
      ⟨by show 2 ≤ sizeLine; decide, [.ref q, en.val], .cons rfl (.cons ru .nil), ⟨_, hT2, rfl, _, rfl⟩⟩
    have I1 : Inv X pins σ (upd H s.heap.objs.size (.tup [.ref q, v])) { s with heap := h'' } :=
      I.turnedNew (t' := s.toks) (ch := [it]) (fun b ob hb e => (sb.2 b (by simpa using hb)).trans (hk b ob (by simpa using hb) e)) hf (Nat.le_refl _) new
    refine ⟨.ref s.heap.objs.size, _, I1, rfl, ⟨_, q, k, v, hkv, rfl, I.hok.fresh (Nat.le_refl _), hq, rfl⟩, ⟨.ref q, en.val, ?_⟩, fun b hb => ?_⟩
    · rw [← hsz]; exact he'
    · have e : b = it := by simpa using hb
      rw [e, upd_ne (Nat.ne_of_lt hlt)]
      exact (hf it (by simp)).1
  done := by
    intro X hP hw hK hc i pins s σ H E I hf st hg
    subst hP hw hK
    obtain ⟨hd, hi⟩ := hg
    obtain ⟨f0, f1, f2, f3, f4, f5⟩ := hf it (by simp)
    obtain ⟨hs, hgd, hx, es', ep', hdt, hsz, ent⟩ := frzT2 I hd
    obtain ⟨rfl, rfl⟩ := dict_ep hod hdt
    obtain ⟨ok, ov, he⟩ := st
    rw [← hsz] at he
    exact wpAny_pyNext_items_end_raw (I.ok.hd hc) he ⟨o, hgd, hx, hod⟩ (by omega) fun h' eb => ⟨rfl, I.turned (t' := s.toks) (fun b ob hb e => eb b ob hb e) f0 f1 f3 f4 f5⟩
  self := fun A i s Q E st h => let ⟨_, _, e⟩ := st; PySem.W.kcp_self e h
end
def iItemsT (td : TE) : TI := fun σ H R => td σ H fun x H1 => ∃ d o kvs, x = .ref d ∧ H1 d = some (.frz o (.dT kvs)) ∧ R (ItiT d o kvs) H1
section
variable {X : Cx} {e : Expr} {td : TE} {apos cpos : Pos}
theorem pi_itemsT {elts : List Expr} {kk : Nat} {tpos : Pos} (he : PE X e td) (hbase : attributeBase e "items" X.env (eval e X.env) = eval e X.env := by rfl) (hline : (apos.endLine == cpos.line) = true := by rfl) :
    PI X (.Tuple elts kk tpos) (.Call (.Attribute e "items" apos) [] [] cpos) (iItemsT td) := by
  refine ⟨fun pins s σ H R I h => ?_⟩
  refine wpAny_Call_method (T := "dict") (id := "dict.items") hbase rfl hline F.plainAttrs_dict F.slot_dict_items F.type_dict_items (thn (he.run pins s σ H _ I h) fun u s1 ⟨x, H1, I1, rx, d, o, kvs, ex, hd, q⟩ => ?_)
  subst ex
  obtain rfl : u = Value.ref d := rx
  obtain ⟨hs, hgd, hx, es, ep, hdt, hsz, ent⟩ := frzT2 I1 hd
  have ty : s1.TypeIs (.ref d) "dict" := ⟨o, hgd, hx.1⟩
  refine ⟨ty, fun b hb => by cases hb; exact ⟨o, hgd, hx.2.1⟩, ?_⟩
  have I2 : Inv X pins σ H1 { s1 with heap := s1.heap.push { cls := .type "dict_items", data := .fields #[.ref d] } } := I1.kept (t' := s1.toks) fun b ob q => Heap.get?_push_of_some _ q
  have fin : wpAny (model X.prog X.w) X.A (pyIter (.ref s1.heap.objs.size)) (PIE X pins σ (.Tuple elts kk tpos) R) X.xe { s1 with heap := s1.heap.push { cls := .type "dict_items", data := .fields #[.ref d] } } := by
    refine DT.iterI (d := d) (es := es) (ep := ep) ⟨_, Heap.get?_push_size _ rfl, rfl, rfl⟩ ⟨o, Heap.get?_push_of_some _ hgd, hx, hdt⟩ (pi_one (tk := s1.toks) I2 _ (turn_itemsT _ hdt) ⟨.none, .none, ?_⟩ q)
    rw [← hsz]
    exact Heap.get?_push_size _ rfl
  show wpAny _ _ (callWith cpos (.builtin "dict.items") [.ref d] [] []) _ X.xe s1
  exact method_meetsIn F.slot_dict_items F.entry_dict_items rfl (PySem.evalArgs_none ⟨rfl, ty, F.args_dict_items_1 _, _, meets_dict_items_raw d hs, ⟨es, ep, o, hgd, hx, hdt⟩, fin⟩)
end
theorem walk_itemsT {d : Addr} {o : Obj} {kvs : List (List Key × V)} : Walk (ItiT d o kvs) kvs.length (fun H => H d = some (.frz o (.dT kvs)))
    (fun i H x H' => ∃ (T q : Addr) (k : List Key) (v : V), kvs[i]? = some (k, v) ∧ x = .ref T ∧ H T = none ∧ H q = some (.tup (k.map kV)) ∧ H' = upd H T (.tup [.ref q, v])) :=
  ⟨fun _ _ hi q => ⟨q, hi⟩, fun _ q => ⟨q, Nat.le_refl _⟩, fun _ _ _ _ _ _ y => y⟩
end L2

/-! sorted of a list of pairs of texts that are keys. -/
namespace Xd
open PySem PySem.Spec PyProof.Rows L2 Gy Xt Xp Srt SrtO
theorem Kp.sq {K : PySem.W.Frag} {H : Hp} {t : Addr} {p : Str × Str} (h : Kp H (.ref t) p) : SqT K H t [.str p.1, .str p.2] := by
  obtain ⟨t', e, a⟩ := h
  cases e
  exact .inl (.inl a)
def rSortK (K : PySem.W.Frag) : List V → Hp → VK → Prop := fun vs H Q => ∃ (a : Addr) (xs : List V) (ps : List (Str × Str)), vs = [.ref a] ∧ SqL K H a xs ∧ Kps H xs ps ∧
  ∀ (ys : List V) (qs : List (Str × Str)) (p : Addr), qs.Perm ps → qs.Pairwise leQ → Kps H ys qs → H p = none → Q (.ref p) (upd H p (.lst ys))
section
variable {X : Cx}
theorem cr_sortK : CallR X (.builtin "sorted") (rSortK X.K) := by
  intro pins s σ H vs us Q I r h
  obtain ⟨a, xs, ps, rfl, hs, hp, q⟩ := h
  obtain ⟨its, rv, hl, hz⟩ := I.list hs
  obtain ⟨u, rfl, ru⟩ := vals1 r
  obtain rfl : u = Value.ref a := ru
  have hx := hp.mem
  obtain ⟨e1, e2⟩ := refs_back rv fun x m => by
    obtain ⟨t, e, _⟩ := hx x m
    exact ⟨t, e⟩
  refine sorted_prs (k := fun u => kpOf H (backV u)) hl.isList (by rw [← rv.length]; exact hz) (fun v hv => ?_) fun h' d out h1 h2 kp hd hn => ?_
  · obtain ⟨t, rfl⟩ := e2 v hv
    have hm : V.ref t ∈ xs := by rw [e1]; exact List.mem_map.mpr ⟨_, hv, rfl⟩
    have kq := hx _ hm
    obtain ⟨its2, r2, ⟨o, ho, hc, n, hd⟩, _⟩ := I.tuple (kq.sq (K := X.K))
    obtain ⟨u1, u2, rfl, ri, rj⟩ := vals2 r2
    obtain ⟨t1, rfl⟩ := ri
    obtain ⟨t2, rfl⟩ := rj
    exact ⟨t, o, t1, t2, n, rfl, ho, hc, hd⟩
  · have h3 : ∀ u ∈ out, ∃ a, u = Value.ref a := fun u hu => e2 u (h2.perm.mem_iff.mp hu)
    obtain ⟨n, hn⟩ := hn
    have pm : (out.map backV).Perm xs := by
      rw [e1]
      exact h2.perm.map backV
    have hy : Kps H (out.map backV) ((out.map backV).map (kpOf H)) := Kps.of fun v hv => hx v (pm.mem_iff.mp hv)
    have pm2 : ((out.map backV).map (kpOf H)).Perm ps := by
      rw [hp.map]
      exact pm.map _
    refine ⟨.ref d, upd H d (.lst (out.map backV)), I.laid (t' := s.toks) kp hd ⟨?_, out, n, vals_back h3, hn⟩, rfl, q _ _ d pm2 ?_ hy (I.hok.fresh hd)⟩
    · rw [pm.length_eq]
      exact hz
    · rw [List.map_map]
      exact List.pairwise_map.mpr h1
end
theorem Kps.snoc {H : Hp} {vs : List V} {ps : List (Str × Str)} {v : V} {p : Str × Str} (h : Kps H vs ps) (g : Kp H v p) : Kps H (vs ++ [v]) (ps ++ [p]) := by
  unfold Kps at h ⊢
  induction h with
  | nil => exact .cons g .nil
  | cons h t ih => exact .cons h ih
theorem Kps.get {H : Hp} {vs : List V} {ps : List (Str × Str)} (h : Kps H vs ps) {i : Nat} {v : V} (e : vs[i]? = some v) : ∃ p, ps[i]? = some p ∧ Kp H v p := by
  unfold Kps at h
  induction h generalizing i with
  | nil => simp at e
  | @cons w p vs ps h t ih =>
    cases i with
    | zero =>
      simp only [List.getElem?_cons_zero, Option.some.injEq] at e
      subst e
      exact ⟨p, rfl, h⟩
    | succ i =>
      simp only [List.getElem?_cons_succ] at e
      exact ih e
end Xd

namespace Xt
open PySem PySem.Spec PyProof.Rows L2 Gy
/-- l != []: a list and one without items -/
def rNmL (K : PySem.W.Frag) : R2 := fun x y H Q => ∃ a b xs, x = .ref a ∧ y = .ref b ∧ SqL K H a xs ∧ SqL K H b [] ∧ Q (.bl (!xs.isEmpty)) H
theorem op_neEmL {X : Cx} (hu : X.A.units < cLine) : OpR X (compareOp .NotEq) (rNmL X.K) := by
  intro pins s σ H x y v u Q I rx ry h
  obtain ⟨a, b, xs, rfl, rfl, ha, hb, q⟩ := h
  cases rx
  cases ry
  obtain ⟨i1, r1, t1, _⟩ := I.list ha
  obtain ⟨i2, r2, t2, _⟩ := I.list hb
  cases r2
  cases xs with
  | nil =>
    cases r1
    exact SeqAt.RcNeAt.lists (e := fun _ => true) t1.isList t2.isList rfl hu (fun j h1 h2 => absurd h2 (Nat.not_lt_zero j)) _ _ _ _ ⟨.bl false, H, I, rfl, q⟩
  | cons y ys =>
    cases r1 with
    | cons h t =>
      exact SeqAt.RcNeAt.lists_lengths t1.isList t2.isList (by simp) hu _ _ _ _ ⟨.bl true, H, I, rfl, q⟩
end Xt

namespace My
open PySem PySem.Spec PyProof.Rows L2 Gy Xl Xs Xt Xo Xp Xu Xd
/-! ### the channels that are not empty -/
def busyP (fl : Str × Str → List PyData) (k : Str × Str) : Bool := !(fl k).isEmpty
def busyL (ks : List (Str × Str)) (fl : Str × Str → List PyData) : List (Str × Str) := ks.filter (busyP fl)
section
variable {P : Program} {w : World} {K : PySem.W.Frag} {mg : Str → Option Value} {base : Heap} {C : Addr} {H H1 H2 : Hp} {t : Tag → Prop} {τ τ1 : Tg} {W : WA} {hs : List Str} {ks ks' : List (Str × Str)} {fl fl' : Str × Str → List PyData} {sh sm : Str → HS}
def spBusy (K : PySem.W.Frag) (C : Addr) : Sp := fun vs H Q _ => ∃ (τ : Tg) (W : WA) (hs : List Str) (ks : List (Str × Str)) (fl : Str × Str → List PyData) (sh sm : Str → HS), vs = [.ref W.D] ∧ Wd K C H τ W hs ks fl sh sm ∧ ks.length ≤ 1000 ∧
  ∀ H' L ys qs, Same H H' → H L = none → H' L = some (.lst ys) → Kps H' ys qs → qs.Perm (busyL ks fl) → qs.Pairwise leQ → Q (.ref L) H'
theorem unlock {H H' : Hp} {d : Addr} {u : HO} {od : Obj} (h : H d = some u) (s : Same (upd H d (.frz od u)) H') : Same H (upd H' d u) := fun b o e => by
  by_cases c : b = d
  · subst c
    rw [h] at e
    cases e
    exact upd_same
  · rw [upd_ne c]
    exact s b o (by rw [upd_ne c]; exact e)
theorem ok_busy {f : Addr} {fd : FuncData} (F : Fun K "_law_busy" "_law_busy" s_law_busy f fd) (Y : Bn mg) : FnOk P w K mg base CX0 1 f fd ["_law_world_here"] (spBusy K C) := by
  refine F.ok sc_law_busy (fun vs H Q E h => ?_) (fun cdv A outer s H vs Q E hr h => ?_)
  · obtain ⟨τ, W, hs, ks, fl, sh, sm, rfl, _⟩ := h
    rfl
  · obtain ⟨τ, W, hs, ks, fl, sh, sm, rfl, wd, kl, q⟩ := h
    have hu1 := hu_of hr
    have hu0 := Nat.lt_of_succ_lt hu1
    have hu64 := hr.units
    refine ⟨_, (pss_one (ps_ret (pe_callB cr_sortK (by rfl) Y.sorted (by decide +kernel) (pa_cons (pe_lock (pe_lc (own := [("_law_pair", 1), ("_law_items", 2)]) (g := gTup K 2 (gCons (gName 1) (gCons (gName 2) gNil))) (tt := (tTest (tOp (rNmL K) (tVar 2) (tLst tNil)))) rfl sc_law_busy.nd (pi_itemsT (pe_dget hu1 (pv 0) pe_str (fun _ _ => rfl))) (blkOk_by (N := ["_law_world_here", "_law_pair", "_law_items"]) (sc := defScope s_law_busy) (by decide +kernel)) (fun _ _ _ _ _ => (pg_tup (by rfl) (pgs_cons (pg_name (i := 1) sc_law_busy.nd rfl (Or.inl rfl)) (pgs_cons (pg_name (i := 2) sc_law_busy.nd rfl (Or.inl rfl)) pgs_nil)))) (fun _ _ _ _ _ => (pts_one (pt_cmpR (op_neEmL hu0) (pv 2) (pe_lst pa_nil) (nomark _)))) (fun _ _ _ _ _ => (pv 1)))) pa_nil)))), ?_⟩
    refine ⟨W.fD, _, wd.f, True.intro, fun od => ?_⟩
    have nDf : W.D ≠ W.fD := fun z => by
      have := wd.d
      rw [z, wd.f] at this
      cases this
    have gF0 : DGet (upd H W.fD (.frz od (.dT (ckv ks W.fa)))) W.D (.str "flight") (some (.ref W.fD)) := DGet.k (k := .inr "flight") ((upd_ne nDf).trans wd.d)
    refine ⟨_, rfl, W.D, _, rfl, gF0, W.fD, od, _, rfl, upd_same, fun D nD => ?_⟩
    have lck : (upd H W.fD (.frz od (.dT (ckv ks W.fa)))) W.fD = some (.frz od (.dT (ckv ks W.fa))) := upd_same
    generalize hH0 : upd H W.fD (.frz od (.dT (ckv ks W.fa))) = H0 at *
    have n0 : ∀ {a : Addr}, H0 a = none → H a = none := fun {a} e => by
      rw [← hH0] at e
      by_cases c : a = W.fD
      · rw [c, upd_same] at e
        cases e
      · rwa [upd_ne c] at e
    refine lc_it walk_itemsT (fun i H' => ∃ ys, Same H0 H' ∧ H' D = some (.lst ys) ∧ Kps H' ys ((ks.take i).filter (busyP fl))) ⟨[], same_upd nD, upd_same, .nil⟩ (fun i H' _ hP => ?_) ?_ ?_
    · obtain ⟨_, s, _⟩ := hP
      exact s _ _ lck
    · rintro i x H' H2 hi ⟨ys, s, eD, kp⟩ ⟨T, qa, k, v, hk, rfl, nT, eq, rfl⟩
      obtain ⟨j, hj, rfl, rfl⟩ := ckv_at hk
      have s2 := same_upd (o := .tup [V.ref qa, V.ref (W.fa j)]) nT
      have g2 : (upd H' T (.tup [V.ref qa, V.ref (W.fa j)])) T = some (.tup [V.ref qa, V.ref (W.fa j)]) := upd_same
      have e2 := s2 _ _ eq
      have D2 := s2 _ _ eD
      have kp2 := kp.same s2
      generalize upd H' T (.tup [V.ref qa, V.ref (W.fa j)]) = H3 at s2 g2 e2 D2 kp2 ⊢
      have s03 := s.trans s2
      have tk : (ks.take (i + 1)).filter (busyP fl) = (ks.take i).filter (busyP fl) ++ [j].filter (busyP fl) := by
        rw [List.take_add_one, hj, List.filter_append]
        rfl
      refine ⟨T, _, rfl, .inl (.inl g2), rfl, _, _, rfl, _, _, rfl, rfl, rfl, ?_⟩
      refine ⟨_, rfl, Nat.zero_le _, fun l nl => ?_⟩
      have s4 := same_upd (o := .lst []) nl
      have g4 : (upd H3 l (.lst [])) l = some (.lst []) := upd_same
      have e4 := s4 _ _ e2
      have D4 := s4 _ _ D2
      have kp4 := kp2.same s4
      generalize upd H3 l (.lst []) = H4 at s4 g4 e4 D4 kp4 ⊢
      have s04 := s03.trans s4
      obtain ⟨_, us, b, c⟩ := wd.fw j (List.mem_of_getElem? hj)
      have b4 : H4 (W.fa j) = some (.lst us) := s04 _ _ (by
        rw [← hH0, upd_ne fun z => ?_]
        · exact b
        · rw [z, wd.f] at b
          cases b)
      refine ⟨W.fa j, l, us, rfl, rfl, SqL.of b4, SqL.of g4, _, rfl, ?_⟩
      have lu : us.isEmpty = (fl j).isEmpty := by
        have := Dns.len c
        cases us <;> cases h : fl j <;> simp_all
      rw [lu]
      have kl2 : ys.length ≤ ks.length := by
        rw [kp.len]
        exact Nat.le_trans (List.length_filter_le _ _) (by rw [List.length_take]; omega)
      cases hb : (fl j).isEmpty with
      | true =>
        refine iteF ⟨ys, s04, D4, ?_⟩
        rw [tk, List.filter_cons_of_neg (by unfold busyP; rw [hb]; decide)]
        simpa using kp4
      | false =>
        refine iteT ⟨_, rfl, ys, D4, small200 (by omega), ys ++ [.ref qa], ?_, upd_same, ?_⟩
        · exact fun y o e => by
            rw [upd_ne fun z => ?_]
            · exact s04 _ _ e
            · rw [z, nD] at e
              cases e
        · rw [tk, List.filter_cons_of_pos (by unfold busyP; rw [hb]; decide)]
          have up : ∀ {vs ps}, Kps H4 vs ps → Kps (upd H4 D (.lst (ys ++ [V.ref qa]))) vs ps := fun {vs ps} z => by
            unfold Kps at z ⊢
            induction z with
            | nil => exact .nil
            | cons a _ ih =>
              obtain ⟨t, e, a⟩ := a
              refine .cons ⟨t, e, ?_⟩ ih
              rw [upd_ne fun z => ?_]
              · exact a
              · rw [z, D4] at a
                cases a
          exact (up kp4).snoc ⟨qa, rfl, by
            rw [upd_ne fun z => ?_]
            · exact e4
            · rw [z, D4] at e4
              cases e4⟩
    · rintro H' ⟨ys, s, eD, kp⟩
      rw [ckv_len, List.take_of_length_le (Nat.le_refl _)] at kp
      refine ⟨s _ _ lck, ?_⟩
      have s' : Same H (upd H' W.fD (.dT (ckv ks W.fa))) := unlock (od := od) wd.f (by rw [hH0]; exact s)
      have nDD : D ≠ W.fD := fun z => by rw [z, lck] at nD; cases nD
      have up : Kps (upd H' W.fD (.dT (ckv ks W.fa))) ys (ks.filter (busyP fl)) := by
        clear eD
        unfold Kps at kp ⊢
        generalize ks.filter (busyP fl) = qs at kp ⊢
        induction kp with
        | nil => exact .nil
        | cons a _ ih =>
          obtain ⟨t, e, a⟩ := a
          refine .cons ⟨t, e, ?_⟩ ih
          rw [upd_ne fun z => ?_]
          · exact a
          · rw [z, s _ _ lck] at a
            cases a
      refine ⟨D, ys, _, rfl, SqL.of ((upd_ne nDD).trans eD), up, fun zs qs p pm pw kz nL => ?_⟩
      exact q _ p zs qs (s'.trans (same_upd nL)) (same_no s' nL) upd_same (kz.same (same_upd nL)) pm pw
end
end My

namespace My
open PySem PySem.Spec PyProof.Rows L2
/-! ### a tree that grows by leaves, and the two sides of a link -/
abbrev Msg := Str × Str
abbrev Lnk := Str × Str
/-- what hangs on c -/
inductive Ds (ps : List Lnk) (c : Str) : Str → Prop
  | refl : Ds ps c c
  | step {x y : Str} (h : Ds ps c y) (m : (x, y) ∈ ps) : Ds ps c x
def hsT (r : Str) (ps : List Lnk) : List Str := r :: ps.map Prod.fst
def Gr (r : Str) (ps : List Lnk) : Prop := ∀ l1 p l2, ps = l1 ++ p :: l2 → p.2 ∈ hsT r l1 ∧ p.1 ∉ hsT r l1
theorem Gr.nil (r : Str) : Gr r [] := fun l1 p l2 e => by
  cases l1 <;> cases e
theorem Gr.snoc {r : Str} {ps : List Lnk} {x a : Str} (g : Gr r ps) (ha : a ∈ hsT r ps) (hx : x ∉ hsT r ps) : Gr r (ps ++ [(x, a)]) := fun l1 p l2 e => by
  rcases List.append_eq_append_iff.mp e with ⟨as, e1, e2⟩ | ⟨bs, e1, e2⟩
  · cases as with
    | nil =>
      rw [List.nil_append] at e2
      rw [List.append_nil] at e1
      injection e2 with e3 _
      rw [← e3, e1]
      exact ⟨ha, hx⟩
    | cons b as =>
      rw [List.cons_append] at e2
      injection e2 with _ e2
      have := congrArg List.length e2
      simp at this
  · cases bs with
    | nil =>
      rw [List.nil_append] at e2
      rw [List.append_nil] at e1
      injection e2 with e3 _
      rw [e3, ← e1]
      exact ⟨ha, hx⟩
    | cons b bs =>
      rw [List.cons_append] at e2
      injection e2 with e3 e4
      rw [e3]
      exact g l1 b bs e1
section
variable {r : Str} {ps : List Lnk}
theorem Gr.split (_ : Gr r ps) {p : Lnk} (m : p ∈ ps) : ∃ l1 l2, ps = l1 ++ p :: l2 := List.append_of_mem m
theorem hsT_app (r : Str) (l1 l2 : List Lnk) : hsT r (l1 ++ l2) = hsT r l1 ++ l2.map Prod.fst := by
  unfold hsT
  rw [List.map_append]
  rfl
theorem Gr.mem (g : Gr r ps) {x y : Str} (m : (x, y) ∈ ps) : x ∈ hsT r ps ∧ y ∈ hsT r ps := by
  obtain ⟨l1, l2, e⟩ := g.split m
  obtain ⟨h1, _⟩ := g l1 (x, y) l2 e
  refine ⟨List.mem_cons_of_mem _ (List.mem_map_of_mem m), ?_⟩
  rw [e, hsT_app]
  exact List.mem_append_left _ h1
/-- its place -/
def ix (r : Str) (ps : List Lnk) (x : Str) : Nat := (hsT r ps).idxOf x
theorem Gr.lt (g : Gr r ps) {x y : Str} (m : (x, y) ∈ ps) : ix r ps y < ix r ps x := by
  obtain ⟨l1, l2, e⟩ := g.split m
  obtain ⟨h1, h2⟩ := g l1 (x, y) l2 e
  unfold ix
  rw [e, hsT_app, List.idxOf_append, List.idxOf_append, if_pos h1, if_neg h2]
  have h3 : List.idxOf y (hsT r l1) < (hsT r l1).length := List.idxOf_lt_length_of_mem h1
  omega
theorem Ds.le (g : Gr r ps) {c x : Str} (d : Ds ps c x) : ix r ps c ≤ ix r ps x := by
  induction d with
  | refl => exact Nat.le_refl _
  | step _ m ih => exact Nat.le_of_lt (Nat.lt_of_le_of_lt ih (g.lt m))
theorem Gr.not_up (g : Gr r ps) {c p : Str} (m : (c, p) ∈ ps) : ¬ Ds ps c p := fun d => absurd (d.le g) (Nat.not_le.mpr (g.lt m))
theorem Gr.one (g : Gr r ps) {x y z : Str} (m : (x, y) ∈ ps) (n : (x, z) ∈ ps) : y = z := by
  obtain ⟨l1, l2, e⟩ := g.split m
  obtain ⟨k1, k2, f⟩ := g.split n
  have a := (g l1 (x, y) l2 e).2
  have b := (g k1 (x, z) k2 f).2
  rw [e] at f
  rcases List.append_eq_append_iff.mp f with ⟨as, e1, e2⟩ | ⟨bs, e1, e2⟩
  · cases as with
    | nil =>
      rw [List.nil_append] at e2
      injection e2 with e3 _
      injection e3
    | cons q as =>
      rw [List.cons_append] at e2
      injection e2 with e3 _
      refine absurd ?_ b
      rw [e1, hsT_app]
      refine List.mem_append_right _ ?_
      rw [← e3]
      exact List.mem_cons_self
  · cases bs with
    | nil =>
      rw [List.nil_append] at e2
      injection e2 with e3 _
      injection e3 with _ e4
      exact e4.symm
    | cons q bs =>
      rw [List.cons_append] at e2
      injection e2 with e3 _
      refine absurd ?_ a
      rw [e1, hsT_app]
      refine List.mem_append_right _ ?_
      rw [← e3]
      exact List.mem_cons_self
theorem Ds.trans {a b c : Str} (h : Ds ps a b) (k : Ds ps b c) : Ds ps a c := by
  induction k with
  | refl => exact h
  | step _ m ih => exact ih.step m
theorem Ds.line (g : Gr r ps) {u w x : Str} (h : Ds ps u x) : Ds ps w x → Ds ps u w ∨ Ds ps w u := by
  induction h with
  | refl => exact fun k => .inr k
  | @step x y h m ih =>
    intro k
    cases k with
    | refl => exact .inl (h.step m)
    | step k n =>
      have e := g.one m n
      subst e
      exact ih k
/-- linked -/
def Aj (ps : List Lnk) (u v : Str) : Prop := (u, v) ∈ ps ∨ (v, u) ∈ ps
theorem Aj.symm {u v : Str} (h : Aj ps u v) : Aj ps v u := Or.symm h
/-- x is on the side of u, of the link of u and v -/
def Sd (ps : List Lnk) (u v x : Str) : Prop := ((u, v) ∈ ps ∧ Ds ps u x) ∨ ((v, u) ∈ ps ∧ ¬ Ds ps v x)
theorem Gr.anti (g : Gr r ps) {u v : Str} (m : (u, v) ∈ ps) : (v, u) ∉ ps := fun n => absurd (g.lt m) (Nat.not_lt.mpr (Nat.le_of_lt (g.lt n)))
theorem Sd.not (g : Gr r ps) {u v x : Str} (a : Aj ps u v) : Sd ps v u x ↔ ¬ Sd ps u v x := by
  rcases a with a | a
  · have b := g.anti a
    unfold Sd
    constructor
    · rintro (⟨h, _⟩ | ⟨_, h⟩)
      · exact absurd h b
      · rintro (⟨_, k⟩ | ⟨k, _⟩)
        · exact h k
        · exact b k
    · intro h
      exact .inr ⟨a, fun k => h (.inl ⟨a, k⟩)⟩
  · have b := g.anti a
    unfold Sd
    constructor
    · rintro (⟨_, h⟩ | ⟨h, _⟩)
      · rintro (⟨k, _⟩ | ⟨_, k⟩)
        · exact b k
        · exact k h
      · exact absurd h b
    · intro h
      refine .inl ⟨a, Classical.byContradiction fun k => h (.inr ⟨a, k⟩)⟩
theorem Sd.self (g : Gr r ps) {u v : Str} (a : Aj ps u v) : Sd ps u v u := by
  rcases a with a | a
  · exact .inl ⟨a, .refl⟩
  · exact .inr ⟨a, g.not_up a⟩
theorem Sd.on (g : Gr r ps) {u v w x : Str} (a : Aj ps u v) (b : Aj ps v w) (n : u ≠ w) (s : Sd ps u v x) : Sd ps v w x := by
  rcases s with ⟨m, d⟩ | ⟨m, d⟩
  · rcases b with b | b
    · exact .inl ⟨b, (Ds.refl.step m).trans d⟩
    · refine .inr ⟨b, fun k => ?_⟩
      rcases d.line g k with h | h
      · cases h with
        | refl => exact n rfl
        | step h h2 =>
          have e := g.one b h2
          subst e
          exact g.not_up m h
      · cases h with
        | refl => exact n rfl
        | step h h2 =>
          have e := g.one m h2
          subst e
          exact g.not_up b h
  · rcases b with b | b
    · exact absurd (g.one m b) n
    · exact .inr ⟨b, fun k => d ((Ds.refl.step b).trans k)⟩
/-! a new leaf -/
theorem Ds.old {l a c x : Str} (g : Gr r ps) (hl : l ∉ hsT r ps) (hx : x ≠ l) : Ds (ps ++ [(l, a)]) c x ↔ Ds ps c x := by
  constructor
  · intro d
    induction d with
    | refl => exact .refl
    | @step x y d m ih =>
      rcases List.mem_append.mp m with m | m
      · exact (ih fun z => hl (z ▸ (g.mem m).2)).step m
      · rw [List.mem_singleton] at m
        injection m with m _
        exact absurd m hx
  · intro d
    induction d with
    | refl => exact .refl
    | @step x y d m ih => exact (ih fun z => hl (z ▸ (g.mem m).2)).step (List.mem_append_left _ m)
theorem Ds.leaf {l a x : Str} (g : Gr r ps) (hl : l ∉ hsT r ps) (ha : a ∈ hsT r ps) (d : Ds (ps ++ [(l, a)]) l x) : x = l := by
  induction d with
  | refl => rfl
  | @step x y d m ih =>
    rw [ih] at m
    rcases List.mem_append.mp m with m | m
    · exact absurd (g.mem m).2 hl
    · rw [List.mem_singleton] at m
      have m2 : l = a := congrArg Prod.snd m
      exact absurd (show l ∈ hsT r ps by rw [m2]; exact ha) hl
/-! ### messages that flood: what every host has logged, what is in flight -/
/-- the messages that were written on a side -/
noncomputable def fil (s : Str → Prop) (l : List Msg) : List Msg := l.filter fun m => @decide (s m.1) (Classical.propDecidable _)
theorem fil_app (s : Str → Prop) (l k : List Msg) : fil s (l ++ k) = fil s l ++ fil s k := List.filter_append ..
theorem fil_yes {s : Str → Prop} {m : Msg} (h : s m.1) : fil s [m] = [m] := by
  unfold fil
  rw [List.filter_cons_of_pos (by exact @decide_eq_true _ (Classical.propDecidable _) h)]
  rfl
theorem fil_no {s : Str → Prop} {m : Msg} (h : ¬ s m.1) : fil s [m] = [] := by
  unfold fil
  rw [List.filter_cons_of_neg (by rw [@decide_eq_false _ (Classical.propDecidable _) h]; decide)]
  rfl
theorem fil_mem {s : Str → Prop} {l : List Msg} {m : Msg} : m ∈ fil s l ↔ m ∈ l ∧ s m.1 := by
  unfold fil
  rw [List.mem_filter]
  exact and_congr_right fun _ => ⟨fun h => @of_decide_eq_true _ (Classical.propDecidable _) h, fun h => @decide_eq_true _ (Classical.propDecidable _) h⟩
theorem fil_nd {s : Str → Prop} {l : List Msg} (h : l.Nodup) : (fil s l).Nodup := h.filter _
theorem fil_congr {s t : Str → Prop} {l : List Msg} (h : ∀ m ∈ l, s m.1 ↔ t m.1) : fil s l = fil t l := by
  unfold fil
  refine List.filter_congr fun m hm => ?_
  have := h m hm
  by_cases c : s m.1
  · rw [@decide_eq_true _ (Classical.propDecidable _) c, @decide_eq_true _ (Classical.propDecidable _) (this.mp c)]
  · rw [@decide_eq_false _ (Classical.propDecidable _) c, @decide_eq_false _ (Classical.propDecidable _) (fun z => c (this.mpr z))]
end
theorem nd_one {α : Type} {l : List α} {m : α} (h : l.Nodup) (n : m ∉ l) : (l ++ [m]).Nodup := List.nodup_append.mpr ⟨h, List.nodup_cons.mpr ⟨(fun z => nomatch z), List.nodup_nil⟩, fun a ha b hb z => n (by rw [List.mem_singleton] at hb; rw [← hb, ← z]; exact ha)⟩
structure GS where
  r : Str
  ps : List Lnk
  lg : Str → List Msg
  fl : Lnk → List Msg
  ws : List Msg
  past : Msg → List Msg
def GS.hs (g : GS) : List Str := hsT g.r g.ps
structure Fl (g : GS) : Prop where
  gr : Gr g.r g.ps
  cut : ∀ u v, Aj g.ps u v → fil (Sd g.ps u v) (g.lg u) = fil (Sd g.ps u v) (g.lg v) ++ g.fl (u, v)
  no : ∀ u v, ¬ Aj g.ps u v → g.fl (u, v) = []
  nd : ∀ u, (g.lg u).Nodup
  sub : ∀ u m, m ∈ g.lg u → m ∈ g.ws
  own : ∀ m ∈ g.ws, m.1 ∈ g.hs ∧ m ∈ g.lg m.1
  wnd : g.ws.Nodup
  cau : ∀ u l1 m l2, g.lg u = l1 ++ m :: l2 → ∀ e ∈ g.past m, e ∈ l1
/-- what is in flight was logged by its sender, on the sender's side -/
theorem Fl.sent {g : GS} (h : Fl g) {u v : Str} {m : Msg} (hm : m ∈ g.fl (u, v)) : Aj g.ps u v ∧ m ∈ g.lg u ∧ Sd g.ps u v m.1 := by
  by_cases a : Aj g.ps u v
  · have : m ∈ fil (Sd g.ps u v) (g.lg u) := by
      rw [h.cut u v a]
      exact List.mem_append_right _ hm
    exact ⟨a, fil_mem.mp this⟩
  · rw [h.no u v a] at hm
    cases hm
open Classical in
/-- a host writes -/
noncomputable def GS.wrote (g : GS) (u : Str) (m : Msg) : GS := { g with
  lg := fun x => if x = u then g.lg u ++ [m] else g.lg x
  fl := fun k => if k.1 = u ∧ Aj g.ps u k.2 then g.fl k ++ [m] else g.fl k
  ws := g.ws ++ [m]
  past := fun n => if n = m then g.lg u else g.past n }
theorem app_one {α : Type} {l l1 l2 : List α} {m n : α} (h : l ++ [n] = l1 ++ m :: l2) : (∃ l3, l2 = l3 ++ [n] ∧ l = l1 ++ m :: l3) ∨ (l2 = [] ∧ m = n ∧ l = l1) := by
  cases hl : l2.reverse with
  | nil =>
    have : l2 = [] := List.reverse_eq_nil_iff.mp hl
    subst this
    have e := List.append_inj' h rfl
    refine .inr ⟨rfl, ?_, e.1⟩
    have := e.2
    injection this with this _
    exact this.symm
  | cons b bs =>
    have e2 : l2 = bs.reverse ++ [b] := by
      have := congrArg List.reverse hl
      rw [List.reverse_reverse, List.reverse_cons] at this
      exact this
    rw [e2] at h
    have h2 : l ++ [n] = (l1 ++ m :: bs.reverse) ++ [b] := by rw [h]; simp
    have e := List.append_inj' h2 rfl
    have e3 := e.2
    injection e3 with e3 _
    exact .inl ⟨bs.reverse, by rw [e2, e3], e.1⟩
theorem Fl.write {g : GS} (h : Fl g) {u : Str} {m : Msg} (hu : u ∈ g.hs) (hm : m ∉ g.ws) (e : m.1 = u) : Fl (g.wrote u m) := by
  have nu : ∀ x, m ∉ g.lg x := fun x z => hm (h.sub x m z)
  have lu : (g.wrote u m).lg u = g.lg u ++ [m] := if_pos rfl
  have lx : ∀ x, x ≠ u → (g.wrote u m).lg x = g.lg x := fun x n => if_neg n
  refine ⟨h.gr, fun a b ab => ?_, fun a b ab => ?_, fun x => ?_, fun x n hn => ?_, fun n hn => ?_, ?_, fun x l1 n l2 hx => ?_⟩
  · show fil (Sd g.ps a b) ((g.wrote u m).lg a) = fil (Sd g.ps a b) ((g.wrote u m).lg b) ++ (g.wrote u m).fl (a, b)
    have ne : a ≠ b := fun z => by
      rcases ab with ab | ab
      · exact absurd (h.gr.lt ab) (by rw [z]; exact Nat.lt_irrefl _)
      · exact absurd (h.gr.lt ab) (by rw [z]; exact Nat.lt_irrefl _)
    have c := h.cut a b ab
    by_cases ea : a = u
    · have eb : b ≠ u := fun z => ne (ea.trans z.symm)
      rw [ea, lu, lx b eb]
      have f : (g.wrote u m).fl (u, b) = g.fl (u, b) ++ [m] := if_pos ⟨rfl, ea ▸ ab⟩
      rw [f, fil_app, ← ea, c, fil_yes (by rw [e, ← ea]; exact Sd.self h.gr ab), List.append_assoc]
    · have f : (g.wrote u m).fl (a, b) = g.fl (a, b) := if_neg fun z => ea z.1
      rw [lx a ea, f]
      by_cases eb : b = u
      · rw [eb, lu, fil_app, ← eb, fil_no (by rw [e, ← eb]; exact (Sd.not h.gr ab).mp (Sd.self h.gr ab.symm)), List.append_nil]
        exact c
      · rw [lx b eb]
        exact c
  · have f : (g.wrote u m).fl (a, b) = g.fl (a, b) := if_neg fun z => ab (by have := z.2; rw [← z.1] at this; exact this)
    rw [f]
    exact h.no a b ab
  · by_cases ex : x = u
    · rw [ex, lu]
      exact nd_one (h.nd u) (nu u)
    · rw [lx x ex]
      exact h.nd x
  · show n ∈ g.ws ++ [m]
    by_cases ex : x = u
    · rw [ex, lu] at hn
      rcases List.mem_append.mp hn with hn | hn
      · exact List.mem_append_left _ (h.sub u n hn)
      · exact List.mem_append_right _ hn
    · rw [lx x ex] at hn
      exact List.mem_append_left _ (h.sub x n hn)
  · have hn : n ∈ g.ws ++ [m] := hn
    rcases List.mem_append.mp hn with hn | hn
    · obtain ⟨a, b⟩ := h.own n hn
      refine ⟨a, ?_⟩
      by_cases ex : n.1 = u
      · rw [ex, lu]
        exact List.mem_append_left _ (ex ▸ b)
      · rw [lx _ ex]
        exact b
    · rw [List.mem_singleton.mp hn]
      refine ⟨by rw [e]; exact hu, ?_⟩
      rw [e, lu]
      exact List.mem_append_right _ List.mem_cons_self
  · show (g.ws ++ [m]).Nodup
    exact nd_one h.wnd hm
  · show ∀ e ∈ (if n = m then g.lg u else g.past n), e ∈ l1
    by_cases ex : x = u
    · rw [ex, lu] at hx
      rcases app_one hx with ⟨l3, _, h2⟩ | ⟨_, h1, h2⟩
      · have nm : n ≠ m := fun z => nu u (by rw [h2, z]; simp)
        rw [if_neg nm]
        exact h.cau u l1 n l3 h2
      · rw [if_pos h1, h2]
        exact fun e he => he
    · rw [lx x ex] at hx
      have nm : n ≠ m := fun z => nu x (by rw [hx, z]; simp)
      rw [if_neg nm]
      exact h.cau x l1 n l2 hx
open Classical in
/-- a message is delivered -/
noncomputable def GS.got (g : GS) (u v : Str) (m : Msg) (rest : List Msg) : GS := { g with
  lg := fun x => if x = v then g.lg v ++ [m] else g.lg x
  fl := fun k => if k = (u, v) then rest else if k.1 = v ∧ Aj g.ps v k.2 ∧ k.2 ≠ u then g.fl k ++ [m] else g.fl k }
theorem got_at {g : GS} {u v : Str} {m : Msg} {rest : List Msg} : (g.got u v m rest).fl (u, v) = rest := if_pos rfl
theorem got_on {g : GS} {u v w : Str} {m : Msg} {rest : List Msg} (h : (v, w) ≠ (u, v)) (a : Aj g.ps v w) (n : w ≠ u) : (g.got u v m rest).fl (v, w) = g.fl (v, w) ++ [m] := by
  unfold GS.got
  dsimp only
  rw [if_neg h, if_pos ⟨rfl, a, n⟩]
theorem got_off {g : GS} {u v : Str} {m : Msg} {rest : List Msg} {k : Lnk} (h : k ≠ (u, v)) (n : ¬ (k.1 = v ∧ Aj g.ps v k.2 ∧ k.2 ≠ u)) : (g.got u v m rest).fl k = g.fl k := by
  unfold GS.got
  dsimp only
  rw [if_neg h, if_neg n]
theorem Fl.new {g : GS} (h : Fl g) {u v : Str} {m : Msg} {rest : List Msg} (hf : g.fl (u, v) = m :: rest) : m ∉ g.lg v := fun z => by
  obtain ⟨a, b, c⟩ := h.sent (u := u) (v := v) (m := m) (by rw [hf]; exact List.mem_cons_self)
  have e := h.cut u v a
  have nd := fil_nd (s := Sd g.ps u v) (h.nd u)
  rw [e, hf] at nd
  exact (List.nodup_append.mp nd).2.2 m (fil_mem.mpr ⟨z, c⟩) m List.mem_cons_self rfl
theorem split_one {α : Type} {a b c d : List α} {m : α} (nd : (a ++ m :: b).Nodup) (e : a ++ m :: b = c ++ m :: d) : c = a := by
  rcases List.append_eq_append_iff.mp e with ⟨as, e1, e2⟩ | ⟨bs, e1, e2⟩
  · cases as with
    | nil => rw [e1, List.append_nil]
    | cons x as =>
      rw [List.cons_append] at e2
      injection e2 with e3 e4
      exfalso
      have : m ∈ b := by rw [e4]; simp
      exact (List.nodup_cons.mp (List.nodup_append.mp nd).2.1).1 this
  · cases bs with
    | nil => rw [e1, List.append_nil]
    | cons x bs =>
      rw [List.cons_append] at e2
      injection e2 with e3 e4
      exfalso
      have : m ∈ a := by rw [e1, e3]; simp
      exact (List.nodup_append.mp nd).2.2 m this m List.mem_cons_self rfl
theorem Fl.get {g : GS} (h : Fl g) {u v : Str} {m : Msg} {rest : List Msg} (hf : g.fl (u, v) = m :: rest) : Fl (g.got u v m rest) := by
  obtain ⟨uv, mu, sd⟩ := h.sent (u := u) (v := v) (m := m) (by rw [hf]; exact List.mem_cons_self)
  have nv := h.new hf
  have lv : (g.got u v m rest).lg v = g.lg v ++ [m] := if_pos rfl
  have lx : ∀ x, x ≠ v → (g.got u v m rest).lg x = g.lg x := fun x n => if_neg n
  have irr : ∀ {a b}, Aj g.ps a b → a ≠ b := fun {a b} ab z => by
    rcases ab with ab | ab
    · exact absurd (h.gr.lt ab) (by rw [z]; exact Nat.lt_irrefl _)
    · exact absurd (h.gr.lt ab) (by rw [z]; exact Nat.lt_irrefl _)
  have cuv := h.cut u v uv
  refine ⟨h.gr, fun a b ab => ?_, fun a b ab => ?_, fun x => ?_, fun x n hn => ?_, fun n hn => ?_, h.wnd, fun x l1 n l2 hx => ?_⟩
  · show fil (Sd g.ps a b) ((g.got u v m rest).lg a) = fil (Sd g.ps a b) ((g.got u v m rest).lg b) ++ (g.got u v m rest).fl (a, b)
    have c := h.cut a b ab
    by_cases ea : a = v
    · subst ea
      have eb : b ≠ a := fun z => irr ab z.symm
      rw [lv, lx b eb]
      by_cases bu : b = u
      · subst bu
        have f : (g.got b a m rest).fl (a, b) = g.fl (a, b) := got_off (fun z => eb (congrArg Prod.snd z)) (fun z => z.2.2 rfl)
        rw [f, fil_app, fil_no (fun z => (Sd.not h.gr uv).mp z sd), List.append_nil]
        exact c
      · have f : (g.got u a m rest).fl (a, b) = g.fl (a, b) ++ [m] := got_on (fun z => eb (congrArg Prod.snd z)) ab bu
        rw [f, fil_app, c, fil_yes (Sd.on h.gr uv ab (fun z => bu z.symm) sd), List.append_assoc]
    · rw [lx a ea]
      by_cases eb : b = v
      · subst eb
        rw [lv]
        by_cases au : a = u
        · subst au
          have f : (g.got a b m rest).fl (a, b) = rest := if_pos rfl
          rw [f, fil_app, fil_yes sd, List.append_assoc, cuv, hf]
          rfl
        · have f : (g.got u b m rest).fl (a, b) = g.fl (a, b) := got_off (fun z => au (congrArg Prod.fst z)) (fun z => ea z.1)
          have ns : ¬ Sd g.ps a b m.1 := fun z => by
            have s2 := Sd.on h.gr uv ab.symm (fun z => au z.symm) sd
            exact (Sd.not h.gr ab).mp s2 z
          rw [f, fil_app, fil_no ns, List.append_nil]
          exact c
      · rw [lx b eb]
        have f : (g.got u v m rest).fl (a, b) = g.fl (a, b) := got_off (fun z => eb (congrArg Prod.snd z)) (fun z => ea z.1)
        rw [f]
        exact c
  · have f : (g.got u v m rest).fl (a, b) = g.fl (a, b) := got_off (fun z => ab (by
      have e1 : a = u := congrArg Prod.fst z
      have e2 : b = v := congrArg Prod.snd z
      rw [e1, e2]
      exact uv)) (fun z => ab (by
        obtain ⟨e1, e2, _⟩ := z
        have e1 : a = v := e1
        rw [e1]
        exact e2))
    rw [f]
    exact h.no a b ab
  · by_cases ex : x = v
    · rw [ex, lv]
      exact nd_one (h.nd v) nv
    · rw [lx x ex]
      exact h.nd x
  · by_cases ex : x = v
    · rw [ex, lv] at hn
      rcases List.mem_append.mp hn with hn | hn
      · exact h.sub v n hn
      · rw [List.mem_singleton.mp hn]
        exact h.sub u m mu
    · rw [lx x ex] at hn
      exact h.sub x n hn
  · obtain ⟨a, b⟩ := h.own n hn
    refine ⟨a, ?_⟩
    by_cases ex : n.1 = v
    · rw [ex, lv]
      exact List.mem_append_left _ (ex ▸ b)
    · rw [lx _ ex]
      exact b
  · show ∀ e ∈ g.past n, e ∈ l1
    by_cases ex : x = v
    · rw [ex, lv] at hx
      rcases app_one hx with ⟨l3, _, h2⟩ | ⟨_, h1, h2⟩
      · exact h.cau v l1 n l3 h2
      · rw [h1, ← h2]
        intro e he
        -- what it knew then is known here
        obtain ⟨k1, k2, ek⟩ := List.append_of_mem mu
        have e1 := h.cau u k1 m k2 ek e he
        by_cases s : Sd g.ps u v e.1
        · have q : fil (Sd g.ps u v) (g.lg u) = fil (Sd g.ps u v) k1 ++ m :: fil (Sd g.ps u v) k2 := by
            rw [ek, show k1 ++ m :: k2 = k1 ++ ([m] ++ k2) from rfl, fil_app, fil_app, fil_yes sd]
            rfl
          have nd := fil_nd (s := Sd g.ps u v) (h.nd u)
          rw [cuv, hf] at q
          rw [cuv, hf] at nd
          have fe : e ∈ fil (Sd g.ps u v) k1 := fil_mem.mpr ⟨e1, s⟩
          have pre : fil (Sd g.ps u v) k1 = fil (Sd g.ps u v) (g.lg v) := split_one nd q
          rw [pre] at fe
          exact (fil_mem.mp fe).1
        · have s2 : Sd g.ps v u e.1 := (Sd.not h.gr uv).mpr s
          have e2 : e ∈ fil (Sd g.ps v u) (g.lg u) := fil_mem.mpr ⟨by rw [ek]; exact List.mem_append_left _ e1, s2⟩
          have c := h.cut v u uv.symm
          have : e ∈ fil (Sd g.ps v u) (g.lg v) := by rw [c]; exact List.mem_append_left _ e2
          exact (fil_mem.mp this).1
    · rw [lx x ex] at hx
      exact h.cau x l1 n l2 hx
end My

namespace My
open PySem PySem.Spec PyProof.Rows L2
/-! ### a leaf joins; at rest; how many deliveries are left -/
open Classical in
noncomputable def GS.join (g : GS) (l a : Str) : GS := { g with ps := g.ps ++ [(l, a)], lg := fun x => if x = l then g.lg a else g.lg x }
theorem Gr.irr {r : Str} {ps : List Lnk} (g : Gr r ps) {a b : Str} (ab : Aj ps a b) : a ≠ b := fun z => by
  rcases ab with ab | ab
  · exact absurd (g.lt ab) (by rw [z]; exact Nat.lt_irrefl _)
  · exact absurd (g.lt ab) (by rw [z]; exact Nat.lt_irrefl _)
theorem Aj.mem {r : Str} {ps : List Lnk} (g : Gr r ps) {a b : Str} (ab : Aj ps a b) : a ∈ hsT r ps ∧ b ∈ hsT r ps := by
  rcases ab with ab | ab
  · exact g.mem ab
  · exact (g.mem ab).symm
theorem Aj.snoc {ps : List Lnk} {l a u v : Str} (h : Aj (ps ++ [(l, a)]) u v) : Aj ps u v ∨ (u = l ∧ v = a) ∨ (u = a ∧ v = l) := by
  rcases h with h | h
  · rcases List.mem_append.mp h with h | h
    · exact .inl (.inl h)
    · rw [List.mem_singleton] at h
      exact .inr (.inl ⟨congrArg Prod.fst h, congrArg Prod.snd h⟩)
  · rcases List.mem_append.mp h with h | h
    · exact .inl (.inr h)
    · rw [List.mem_singleton] at h
      exact .inr (.inr ⟨congrArg Prod.snd h, congrArg Prod.fst h⟩)
theorem Sd.old {r : Str} {ps : List Lnk} {l a u v x : Str} (g : Gr r ps) (hl : l ∉ hsT r ps) (hx : x ≠ l) (ab : Aj ps u v) : Sd (ps ++ [(l, a)]) u v x ↔ Sd ps u v x := by
  have ⟨hu, hv⟩ := ab.mem g
  have m1 : ∀ {c d : Str}, c ∈ hsT r ps → ((c, d) ∈ ps ++ [(l, a)] ↔ (c, d) ∈ ps) := fun {c d} hc => ⟨fun h => by
    rcases List.mem_append.mp h with h | h
    · exact h
    · rw [List.mem_singleton] at h
      have e : c = l := congrArg Prod.fst h
      exact absurd (e ▸ hc) hl, List.mem_append_left _⟩
  unfold Sd
  rw [m1 hu, m1 hv, Ds.old g hl hx, Ds.old g hl hx]
theorem Fl.join {g : GS} (h : Fl g) {l a : Str} (hl : l ∉ g.hs) (ha : a ∈ g.hs) : Fl (g.join l a) := by
  have ll : (g.join l a).lg l = g.lg a := if_pos rfl
  have lx : ∀ x, x ≠ l → (g.join l a).lg x = g.lg x := fun x n => if_neg n
  have wr : ∀ u m, m ∈ g.lg u → m.1 ≠ l := fun u m hm z => hl (z ▸ (h.own m (h.sub u m hm)).1)
  have al : a ≠ l := fun z => hl (z ▸ ha)
  have na : ¬ Aj g.ps l a := fun z => hl (z.mem h.gr).1
  refine ⟨h.gr.snoc ha hl, fun u v uv => ?_, fun u v uv => ?_, fun x => ?_, fun x m hm => ?_, fun m hm => ?_, h.wnd, fun x l1 m l2 hx => ?_⟩
  · show fil (Sd (g.ps ++ [(l, a)]) u v) ((g.join l a).lg u) = fil (Sd (g.ps ++ [(l, a)]) u v) ((g.join l a).lg v) ++ g.fl (u, v)
    rcases uv.snoc with ab | ⟨e1, e2⟩ | ⟨e1, e2⟩
    · obtain ⟨hu, hv⟩ := ab.mem h.gr
      have nu : u ≠ l := fun z => hl (z ▸ hu)
      have nv : v ≠ l := fun z => hl (z ▸ hv)
      rw [lx u nu, lx v nv, fil_congr fun m hm => Sd.old h.gr hl (wr u m hm) ab, fil_congr (l := g.lg v) fun m hm => Sd.old h.gr hl (wr v m hm) ab]
      exact h.cut u v ab
    · rw [e1, e2, ll, lx a al, h.no l a na, List.append_nil]
    · rw [e1, e2, ll, lx a al, h.no a l (fun z => na z.symm), List.append_nil]
  · exact h.no u v fun z => uv (z.imp (List.mem_append_left _) (List.mem_append_left _))
  · by_cases e : x = l
    · rw [e, ll]
      exact h.nd a
    · rw [lx x e]
      exact h.nd x
  · by_cases e : x = l
    · rw [e, ll] at hm
      exact h.sub a m hm
    · rw [lx x e] at hm
      exact h.sub x m hm
  · obtain ⟨a1, a2⟩ := h.own m hm
    refine ⟨?_, ?_⟩
    · show m.1 ∈ hsT g.r (g.ps ++ [(l, a)])
      rw [hsT_app]
      exact List.mem_append_left _ a1
    · rw [lx _ (wr m.1 m a2)]
      exact a2
  · by_cases e : x = l
    · rw [e, ll] at hx
      exact h.cau a l1 m l2 hx
    · rw [lx x e] at hx
      exact h.cau x l1 m l2 hx
/-! at rest -/
theorem Fl.same {g : GS} (h : Fl g) (e : ∀ k, g.fl k = []) {u v : Str} (a : Aj g.ps u v) (m : Msg) : m ∈ g.lg u → m ∈ g.lg v := fun hm => by
  by_cases s : Sd g.ps u v m.1
  · have c := h.cut u v a
    rw [e, List.append_nil] at c
    have : m ∈ fil (Sd g.ps u v) (g.lg u) := fil_mem.mpr ⟨hm, s⟩
    rw [c] at this
    exact (fil_mem.mp this).1
  · have s2 := (Sd.not h.gr a).mpr s
    have c := h.cut v u a.symm
    rw [e, List.append_nil] at c
    have : m ∈ fil (Sd g.ps v u) (g.lg u) := fil_mem.mpr ⟨hm, s2⟩
    rw [← c] at this
    exact (fil_mem.mp this).1
theorem hsT_or {r : Str} {ps : List Lnk} {x : Str} (h : x ∈ hsT r ps) : x = r ∨ ∃ y, (x, y) ∈ ps := by
  rcases List.mem_cons.mp h with h | h
  · exact .inl h
  · obtain ⟨p, hp, e⟩ := List.mem_map.mp h
    exact .inr ⟨p.2, by rw [← e]; exact hp⟩
theorem Fl.root {g : GS} (h : Fl g) (e : ∀ k, g.fl k = []) (m : Msg) : ∀ n x, x ∈ g.hs → ix g.r g.ps x ≤ n → (m ∈ g.lg x ↔ m ∈ g.lg g.r) := by
  intro n
  induction n with
  | zero =>
    intro x hx hn
    rcases hsT_or hx with hx | ⟨y, hy⟩
    · rw [hx]
    · exact absurd (h.gr.lt hy) (by omega)
  | succ n ih =>
    intro x hx hn
    rcases hsT_or hx with hx | ⟨y, hy⟩
    · rw [hx]
    · have a : Aj g.ps x y := .inl hy
      have := h.gr.lt hy
      rw [← ih y (h.gr.mem hy).2 (by omega)]
      exact ⟨h.same e a m, h.same e a.symm m⟩
theorem Fl.all {g : GS} (h : Fl g) (e : ∀ k, g.fl k = []) {x : Str} (hx : x ∈ g.hs) : (g.lg x).Perm g.ws := by
  refine (List.perm_ext_iff_of_nodup (h.nd x) h.wnd).mpr fun m => ⟨h.sub x m, fun hm => ?_⟩
  obtain ⟨a, b⟩ := h.own m hm
  exact (h.root e m _ x hx (Nat.le_refl _)).mpr ((h.root e m _ m.1 a (Nat.le_refl _)).mp b)
/-! what is left -/
def GS.left (g : GS) : Nat := (g.hs.map fun x => g.ws.length - (g.lg x).length).sum
theorem sum_less {α : Type} {f f' : α → Nat} {v : α} : ∀ {l : List α}, (∀ x ∈ l, f' x ≤ f x) → v ∈ l → f' v < f v → (l.map f').sum < (l.map f).sum
  | [], _, h, _ => nomatch h
  | x :: l, hle, h, lt => by
    rw [List.map_cons, List.map_cons, List.sum_cons, List.sum_cons]
    have all : ∀ {k : List α}, (∀ x ∈ k, f' x ≤ f x) → (k.map f').sum ≤ (k.map f).sum := by
      intro k
      induction k with
      | nil => exact fun _ => Nat.le_refl _
      | cons y k ih =>
        intro hk
        rw [List.map_cons, List.map_cons, List.sum_cons, List.sum_cons]
        have := ih fun z hz => hk z (List.mem_cons_of_mem _ hz)
        have := hk y List.mem_cons_self
        omega
    have hx := hle x List.mem_cons_self
    have ht := all fun z hz => hle z (List.mem_cons_of_mem _ hz)
    rcases List.mem_cons.mp h with e | h
    · rw [← e]
      rw [← e] at hx
      omega
    · have := sum_less (fun z hz => hle z (List.mem_cons_of_mem _ hz)) h lt
      omega
theorem sub_lenM {l k : List Msg} (nd : l.Nodup) (h : ∀ m ∈ l, m ∈ k) : l.length ≤ k.length := by
  induction l generalizing k with
  | nil => exact Nat.zero_le _
  | cons a l ih =>
    obtain ⟨n1, n2⟩ := List.nodup_cons.mp nd
    obtain ⟨k1, k2, e⟩ := List.append_of_mem (h a List.mem_cons_self)
    have := ih (k := k1 ++ k2) n2 fun m hm => by
      have hk := h m (List.mem_cons_of_mem _ hm)
      rw [e] at hk
      rcases List.mem_append.mp hk with z | z
      · exact List.mem_append_left _ z
      · rcases List.mem_cons.mp z with z | z
        · exact absurd (z ▸ hm) n1
        · exact List.mem_append_right _ z
    rw [e]
    simp only [List.length_append, List.length_cons] at this ⊢
    omega
theorem Fl.less {g : GS} (h : Fl g) {u v : Str} {m : Msg} {rest : List Msg} (hf : g.fl (u, v) = m :: rest) : (g.got u v m rest).left < g.left := by
  have h2 := h.get hf
  obtain ⟨uv, _, _⟩ := h.sent (u := u) (v := v) (m := m) (by rw [hf]; exact List.mem_cons_self)
  have hv := (uv.mem h.gr).2
  have lv : (g.got u v m rest).lg v = g.lg v ++ [m] := if_pos rfl
  have lx : ∀ x, x ≠ v → (g.got u v m rest).lg x = g.lg x := fun x n => if_neg n
  refine sum_less (v := v) (fun x _ => ?_) hv ?_
  · by_cases e : x = v
    · rw [e, lv, List.length_append]
      show g.ws.length - _ ≤ g.ws.length - _
      omega
    · rw [lx x e]
      exact Nat.le_refl _
  · have := sub_lenM (h2.nd v) (h2.sub v)
    rw [lv] at this
    rw [lv]
    have h5 : (g.lg v ++ [m]).length ≤ g.ws.length := this
    rw [List.length_append] at h5 ⊢
    have h6 : ([m] : List Msg).length = 1 := rfl
    rw [h6] at h5 ⊢
    have h7 : (g.got u v m rest).ws.length = g.ws.length := rfl
    rw [h7]
    omega
/-! the links, seen from both ends -/
def nbr (ps : List Lnk) (x : Str) : List Str := (ps.filter fun p => decide (p.1 = x)).map Prod.snd ++ (ps.filter fun p => decide (p.2 = x)).map Prod.fst
theorem nbr_mem {ps : List Lnk} {x y : Str} : y ∈ nbr ps x ↔ Aj ps x y := by
  unfold nbr Aj
  rw [List.mem_append, List.mem_map, List.mem_map]
  constructor
  · rintro (⟨p, hp, e⟩ | ⟨p, hp, e⟩)
    · obtain ⟨h1, h2⟩ := List.mem_filter.mp hp
      have h2 := of_decide_eq_true h2
      rw [← h2, ← e]
      exact .inl h1
    · obtain ⟨h1, h2⟩ := List.mem_filter.mp hp
      have h2 := of_decide_eq_true h2
      rw [← h2, ← e]
      exact .inr h1
  · rintro (h | h)
    · exact .inl ⟨(x, y), List.mem_filter.mpr ⟨h, decide_eq_true rfl⟩, rfl⟩
    · exact .inr ⟨(y, x), List.mem_filter.mpr ⟨h, decide_eq_true rfl⟩, rfl⟩
theorem part_perm {f : Lnk → Str} : ∀ {xs : List Str} {ps : List Lnk}, xs.Nodup → (∀ p ∈ ps, f p ∈ xs) → (xs.map fun x => ps.filter fun p => decide (f p = x)).flatten.Perm ps
  | [], ps, _, h => by
    cases ps with
    | nil => exact List.Perm.refl _
    | cons p ps => exact absurd (h p List.mem_cons_self) (fun z => nomatch z)
  | x :: xs, ps, nd, h => by
    obtain ⟨n1, n2⟩ := List.nodup_cons.mp nd
    rw [List.map_cons, List.flatten_cons]
    have e : (xs.map fun y => ps.filter fun p => decide (f p = y)) = xs.map fun y => (ps.filter fun p => !decide (f p = x)).filter fun p => decide (f p = y) := by
      refine List.map_congr_left fun y hy => ?_
      rw [List.filter_filter]
      refine List.filter_congr fun p _ => ?_
      by_cases c : f p = y
      · have : f p ≠ x := fun z => n1 (by rw [← z, c]; exact hy)
        simp [c, this]
        exact fun z => n1 (z ▸ hy)
      · simp [c]
    rw [e]
    have ih := part_perm (f := f) (xs := xs) (ps := ps.filter fun p => !decide (f p = x)) n2 fun p hp => by
      obtain ⟨h1, h2⟩ := List.mem_filter.mp hp
      rcases List.mem_cons.mp (h p h1) with z | z
      · simp [z] at h2
      · exact z
    exact (List.Perm.append_left _ ih).trans (List.filter_append_perm _ ps)
end My

namespace My
open PySem PySem.Spec PyProof.Rows L2 Gy Xl Xs Xt Xo Xp Xu
def okB (n W : Nat) (d : PyData) : Bool := d.showable && d.leavesShort 40 && decide (d.depth ≤ n) && decide (d.weight ≤ W) && sml d
theorem okB.bd {n W : Nat} {d : PyData} (h : okB n W d = true) : Bd n W d := by
  unfold okB at h
  simp only [Bool.and_eq_true, decide_eq_true_eq] at h
  exact ⟨h.1.1.1.1, h.1.1.1.2, h.1.1.2, h.1.2, h.2⟩
theorem all_of {p : PyData → Bool} {ds : List PyData} (h : ds.all p = true) : ∀ d ∈ ds, p d = true := fun d m => List.all_eq_true.mp h d m
theorem rel_no1 {d e : PyData} (h : isPath d = false) : isRel (.tuple [d, e]) = false := by
  cases d with
  | tuple ds =>
    show (isPath (.tuple ds) && isIdx ((ds.length : Int) - 1) e) = false
    rw [h]
    rfl
  | _ => rfl
/-! ### a host shown -/
def jnD : Option (List Str × Nat) → PyData
  | none => .none
  | some (xs, c) => reld xs c
def shownD (st : HS) : PyData := .list [.str st.nm, .list st.lg, .list (st.lk.map PyData.str), .list st.an, jnD st.jn, .str st.sg, .list st.qu]
theorem jn_dn {K : PySem.W.Frag} {H : Hp} {v : V} {j : Option (List Str × Nat)} (h : Jnd H v j) : Dn K H v (jnD j) := by
  match j, h with
  | none, h => rw [show v = .non from h]; exact .non
  | some (xs, c), ⟨t, pa, e, a, b⟩ => rw [e]; exact .tup a (.cons (.tup b (dns_strs xs)) (.cons (.int _) .nil))
section
variable {P : Program} {w : World} {K : PySem.W.Frag} {mg : Str → Option Value} {base : Heap} {H : Hp} {C : Addr}
def spShown (K : PySem.W.Frag) (C : Addr) : Sp := fun vs H Q _ => ∃ (h : Addr) (st : HS) (ad : HA), vs = [.ref h] ∧ Hst K C H h st ad ∧ Fits (shownD st) ∧ ∀ H', Same H H' → Q (.str (shownD st).shown) H'
theorem ok_shown {f : Addr} {fd : FuncData} (F : Fun K "_law_shown" "_law_shown" s_law_shown f fd) (Y : Bn mg) (T : Ch K C) (M_name : Fm P w K mg base CX0 1 C "name" ["self"] (spGet K C fun st _ => .str st.nm)) (M_log : Fm P w K mg base CX0 1 C "log" ["self"] (spLst K C fun st => st.lg))
    (M_links : Fm P w K mg base CX0 1 C "links" ["self"] (spLst K C fun st => st.lk.map PyData.str)) (M_answers : Fm P w K mg base CX0 1 C "answers" ["self"] (spLst K C fun st => st.an)) (M_relink : Fm P w K mg base CX0 1 C "relink" ["self"] (spGet K C fun _ ad => ad.jv))
    (M_phase : Fm P w K mg base CX0 1 C "phase" ["self"] (spGet K C fun st _ => .str st.sg)) (M_queue : Fm P w K mg base CX0 1 C "queue" ["self"] (spLst K C fun st => st.qu)) : FnG P w K mg base CX0 2 f fd ["_law_host"] (spShown K C) := by
  obtain ⟨_, _, MM_name, MB_name, MF_name⟩ := M_name.ex
  obtain ⟨_, _, MM_log, MB_log, MF_log⟩ := M_log.ex
  obtain ⟨_, _, MM_links, MB_links, MF_links⟩ := M_links.ex
  obtain ⟨_, _, MM_answers, MB_answers, MF_answers⟩ := M_answers.ex
  obtain ⟨_, _, MM_relink, MB_relink, MF_relink⟩ := M_relink.ex
  obtain ⟨_, _, MM_phase, MB_phase, MF_phase⟩ := M_phase.ex
  obtain ⟨_, _, MM_queue, MB_queue, MF_queue⟩ := M_queue.ex
  refine fun_g0 F sc_law_shown (fun {vs H Q E} h => ?_) (fun cdv A outer s H vs Q E gd hr h => ?_)
  · obtain ⟨h, st, ad, rfl, _⟩ := h
    rfl
  · obtain ⟨h, st, ad, rfl, x, ft, q⟩ := h
    have hu70 := Room.units70 hr
    refine ⟨_, (pss_one (ps_ret (pe_callB (show CallR _ (.builtin "repr") (rReprN K) from repr_dn gd hu70) (by rfl) Y.repr (by decide +kernel) (pa_cons (pe_lst (pa_cons (pe_meth0 (pv 0) T.cl MM_name MF_name (hr.mono (by decide)) MB_name .nil pass0) (pa_cons (pe_meth0 (pv 0) T.cl MM_log MF_log (hr.mono (by decide)) MB_log .nil pass0) (pa_cons (pe_meth0 (pv 0) T.cl MM_links MF_links (hr.mono (by decide)) MB_links .nil pass0) (pa_cons (pe_meth0 (pv 0) T.cl MM_answers MF_answers (hr.mono (by decide)) MB_answers .nil pass0) (pa_cons (pe_meth0 (pv 0) T.cl MM_relink MF_relink (hr.mono (by decide)) MB_relink .nil pass0) (pa_cons (pe_meth0 (pv 0) T.cl MM_phase MF_phase (hr.mono (by decide)) MB_phase .nil pass0) (pa_cons (pe_meth0 (pv 0) T.cl MM_queue MF_queue (hr.mono (by decide)) MB_queue .nil pass0) pa_nil)))))))) pa_nil)))), ?_⟩
    refine ⟨_, rfl, h, ad.dx, _, rfl, x.at_, (by rfl), h, st, ad, rfl, x, ?_⟩
    refine ⟨_, rfl, h, ad.dx, _, rfl, x.at_, (by rfl), h, st, ad, rfl, x, fun H1 L1 u1 s1 n1 e1 d1 => ?_⟩
    have x1 := x.same s1
    refine ⟨_, rfl, h, ad.dx, _, rfl, x1.at_, (by rfl), h, st, ad, rfl, x1, fun H2 L2 u2 s2 n2 e2 d2 => ?_⟩
    have x2 := x1.same s2
    refine ⟨_, rfl, h, ad.dx, _, rfl, x2.at_, (by rfl), h, st, ad, rfl, x2, fun H3 L3 u3 s3 n3 e3 d3 => ?_⟩
    have x3 := x2.same s3
    refine ⟨_, rfl, h, ad.dx, _, rfl, x3.at_, (by rfl), h, st, ad, rfl, x3, ?_⟩
    refine ⟨_, rfl, h, ad.dx, _, rfl, x3.at_, (by rfl), h, st, ad, rfl, x3, ?_⟩
    refine ⟨_, rfl, h, ad.dx, _, rfl, x3.at_, (by rfl), h, st, ad, rfl, x3, fun H4 L4 u4 s4 n4 e4 d4 => ?_⟩
    have x4 := x3.same s4
    refine ⟨(by show 7 ≤ sizeLine; decide), fun l5 n5 => ?_⟩
    generalize hg : upd H4 l5 _ = H5
    obtain ⟨s5, g5⟩ := upd_new hg n5
    clear hg
    have dd : Dn K H5 (.ref l5) (shownD st) := .lst g5 (.cons (.str _) (.cons (.lst ((((s2.trans s3).trans s4).trans s5) _ _ e1) (((d1.same (fz_same H1)).same (((s2.trans s3).trans s4).trans s5)))) (.cons (.lst (((s3.trans s4).trans s5) _ _ e2) ((d2.same (fz_same H2)).same ((s3.trans s4).trans s5))) (.cons (.lst ((s4.trans s5) _ _ e3) ((d3.same (fz_same H3)).same (s4.trans s5))) (.cons (jn_dn (((x3.jn.same (fz_same H3)).same s4).same s5)) (.cons (.str _) (.cons (.lst (s5 _ _ e4) ((d4.same (fz_same H4)).same s5)) .nil)))))))
    exact ⟨_, _, rfl, dd, ft.1, ft.2.1, ft.2.2, q _ ((((s1.trans s2).trans s3).trans s4).trans s5)⟩
end
theorem shown_fits {st : HS} (h1 : ∀ d ∈ [PyData.str st.nm, .list st.lg, .list (st.lk.map PyData.str), .list st.an, jnD st.jn, .str st.sg, .list st.qu], Bd 10 20000 d) : Fits (shownD st) := (Bd.lst (n := 10) (W := 20000) (L := 7) h1 (by show 7 ≤ 7; decide) (by decide)).fits (by decide) (by decide)
end My

namespace My
open PySem PySem.Spec PyProof.Rows L2 Gy Xl Xs Xt Xo Xp Xu Xd
/-! ### what the mathematics says of hosts and channels -/
/-- what the host shows fits -/
theorem st_fits {st : HS} (a : Nm st.nm) (b : ∀ x ∈ st.lk, Nm x) (b2 : st.lk.length ≤ 14) (c : ∀ d ∈ st.lg, Bd 5 1000 d) (c2 : st.lg.length ≤ 14) (e : st.qu = []) (f : st.an = []) (g : st.sg = "free" ∨ st.sg = "reserved") (h : ∀ xs c, st.jn = some (xs, c) → (∀ x ∈ xs, Nm x) ∧ xs.length ≤ 14 ∧ c ≤ 100) : Fits (shownD st) := by
  have nmb : ∀ x, Nm x → Bd 10 20000 (.str x) := fun x hx => (a0_nm hx).mono (by decide) (by decide)
  have em : Bd 10 20000 (.list []) := (Bd.lst (ds := []) (n := 0) (W := 0) (L := 0) (fun _ z => nomatch z) (Nat.le_refl _) (by decide)).mono (by decide) (by decide)
  have nms : ∀ xs : List Str, (∀ x ∈ xs, Nm x) → ∀ d ∈ xs.map PyData.str, Bd 1 120 d := fun xs hx d hd => by
    obtain ⟨x, m, rfl⟩ := List.mem_map.mp hd
    exact a0_nm (hx x m)
  refine shown_fits fun d hd => ?_
  simp only [List.mem_cons, List.not_mem_nil, or_false] at hd
  rcases hd with rfl | rfl | rfl | rfl | rfl | rfl | rfl
  · exact nmb _ a
  · exact (Bd.lst (L := 14) c c2 (by decide)).mono (by decide) (by decide)
  · exact (Bd.lst (L := 14) (nms _ b) (by rw [List.length_map]; exact b2) (by decide)).mono (by decide) (by decide)
  · rw [f]
    exact em
  · cases j : st.jn with
    | none => exact a0_non.mono (by decide) (by decide)
    | some z =>
      obtain ⟨xs, k⟩ := z
      obtain ⟨h1, h2, h3⟩ := h xs k j
      exact (Bd.tup (n := 2) (W := 2000) (L := 2) (fun e he => by
          simp only [List.mem_cons, List.not_mem_nil, or_false] at he
          rcases he with rfl | rfl
          · exact (Bd.tup (n := 1) (W := 120) (L := 14) (nms _ h1) (by rw [List.length_map]; exact h2) (by decide)).mono (by decide) (by decide)
          · exact (a0_nat h3).mono (by decide) (by decide)) (by show 2 ≤ 2; decide) (by decide)).mono (by decide) (by decide)
  · rcases g with g | g <;> rw [g] <;> exact (a0_txt).mono (by decide) (by decide)
  · rw [e]
    exact em

theorem nd_len {α : Type} : ∀ {l k : List α}, l.Nodup → (∀ m ∈ l, m ∈ k) → l.length ≤ k.length
  | [], _, _, _ => Nat.zero_le _
  | a :: l, k, nd, h => by
    obtain ⟨n1, n2⟩ := List.nodup_cons.mp nd
    obtain ⟨k1, k2, e⟩ := List.append_of_mem (h a List.mem_cons_self)
    have := nd_len (k := k1 ++ k2) n2 fun m hm => by
      have hk := h m (List.mem_cons_of_mem _ hm)
      rw [e] at hk
      rcases List.mem_append.mp hk with z | z
      · exact List.mem_append_left _ z
      · rcases List.mem_cons.mp z with z | z
        · exact absurd (z ▸ hm) n1
        · exact List.mem_append_right _ z
    rw [e]
    simp only [List.length_append, List.length_cons] at this ⊢
    omega
theorem Gr.nd {r : Str} {ps : List Lnk} (g : Gr r ps) : (hsT r ps).Nodup := by
  have h : ∀ n, n ≤ ps.length → (hsT r (ps.take n)).Nodup := by
    intro n
    induction n with
    | zero => exact fun _ => List.nodup_cons.mpr ⟨(fun z => nomatch z), List.nodup_nil⟩
    | succ n ih =>
      intro hn
      have hp : ps[n]? = some ps[n] := List.getElem?_eq_getElem (by omega)
      have tk : ps.take (n + 1) = ps.take n ++ [ps[n]] := by rw [List.take_add_one, hp]; rfl
      have sp : ps = ps.take n ++ ps[n] :: ps.drop (n + 1) := by
        rw [← List.drop_eq_getElem_cons (by omega), List.take_append_drop]
      have no := (g _ _ _ sp).2
      rw [tk, hsT_app]
      refine List.nodup_append.mpr ⟨ih (by omega), List.nodup_cons.mpr ⟨(fun z => nomatch z), List.nodup_nil⟩, fun a ha b hb z => no ?_⟩
      rw [List.map_cons, List.map_nil, List.mem_singleton] at hb
      rw [← hb, ← z]
      exact ha
  have := h ps.length (Nat.le_refl _)
  rwa [List.take_length] at this
theorem nbr_nd {r : Str} {ps : List Lnk} (g : Gr r ps) (x : Str) : (nbr ps x).Nodup := by
  have pw : ps.Pairwise fun p q => p.1 ≠ q.1 := List.pairwise_map.mp (List.nodup_cons.mp g.nd).2
  unfold nbr
  refine List.nodup_append.mpr ⟨?_, ?_, fun a ha b hb z => ?_⟩
  · refine List.pairwise_map.mpr ?_
    have := pw.filter (fun p => decide (p.1 = x))
    refine this.imp_of_mem fun {p q} hp hq n => absurd ?_ n
    rw [of_decide_eq_true (List.mem_filter.mp hp).2, of_decide_eq_true (List.mem_filter.mp hq).2]
  · exact List.pairwise_map.mpr (pw.filter _)
  · obtain ⟨p, hp, e⟩ := List.mem_map.mp ha
    obtain ⟨q, hq, e2⟩ := List.mem_map.mp hb
    obtain ⟨h1, h2⟩ := List.mem_filter.mp hp
    obtain ⟨h3, h4⟩ := List.mem_filter.mp hq
    have h2 := of_decide_eq_true h2
    have h4 := of_decide_eq_true h4
    have m1 : (x, a) ∈ ps := by rw [← h2, ← e]; exact h1
    have m2 : (a, x) ∈ ps := by rw [← h4, z, ← e2]; exact h3
    exact g.anti m1 m2
theorem nbr_in {r : Str} {ps : List Lnk} (g : Gr r ps) {x y : Str} (h : y ∈ nbr ps x) : y ∈ hsT r ps := ((nbr_mem.mp h).mem g).2
theorem nbr_le {r : Str} {ps : List Lnk} (g : Gr r ps) (x : Str) : (nbr ps x).length ≤ (hsT r ps).length := nd_len (nbr_nd g x) fun _ h => nbr_in g h
def itM (m : Msg) : PyData := msgI m.1 m.2
def logM (m : Msg) : PyData := logD m.1 m.2
def stOf (g : GS) (x : Str) : HS := ⟨x, srt (nbr g.ps x), (g.lg x).map logM, none, "free", [], []⟩
def flOf (g : GS) (k : Lnk) : List PyData := (g.fl k).map itM
structure Sml (g : GS) : Prop where
  fl : Fl g
  nm : ∀ x ∈ g.hs, Nm x
  hl : g.hs.length ≤ 11
  wl : g.ws.length ≤ 12
  wd : ∀ m ∈ g.ws, isWord (.str m.2) = true ∧ A0 (.str m.2)
theorem rise_pw : ∀ {r : List Str} {p : Str}, (∀ x ∈ r, leS p x) → r.Pairwise leS → risingS p r = true
  | [], _, _, _ => rfl
  | x :: r, p, h, w => by
    obtain ⟨w1, w2⟩ := List.pairwise_cons.mp w
    have a : ltCps x.cps.toList p.cps.toList = false := by
      rw [ltCps_eq]
      exact decide_eq_false (List.not_lt.mpr (h x List.mem_cons_self))
    show (!ltCps x.cps.toList p.cps.toList && risingS x r) = true
    rw [a, rise_pw w1 w2]
    rfl
theorem pw_sorted {ys : List Str} (w : ys.Pairwise leS) : sortedS ys = true := by
  cases ys with
  | nil => rfl
  | cons x r =>
    obtain ⟨w1, w2⟩ := List.pairwise_cons.mp w
    exact rise_pw w1 w2
section
variable {g : GS}
theorem Sml.hnd (s : Sml g) : g.hs.Nodup := s.fl.gr.nd
theorem Sml.lgl (s : Sml g) (x : Str) : (g.lg x).length ≤ 12 := Nat.le_trans (nd_len (s.fl.nd x) (s.fl.sub x)) s.wl
theorem Sml.fll (s : Sml g) (k : Lnk) : (g.fl k).length ≤ 12 := by
  by_cases a : Aj g.ps k.1 k.2
  · have c := congrArg List.length (s.fl.cut k.1 k.2 a)
    rw [List.length_append] at c
    have h1 : (fil (Sd g.ps k.1 k.2) (g.lg k.1)).length ≤ (g.lg k.1).length := List.length_filter_le _ _
    have := s.lgl k.1
    show (g.fl (k.1, k.2)).length ≤ 12
    omega
  · rw [show g.fl k = [] from s.fl.no k.1 k.2 a]
    exact Nat.zero_le _
theorem Sml.lkl (s : Sml g) (x : Str) : (srt (nbr g.ps x)).length ≤ 11 := by
  rw [srt_len]
  exact Nat.le_trans (nbr_le s.fl.gr x) s.hl
theorem Sml.lkn (s : Sml g) {x y : Str} (h : y ∈ srt (nbr g.ps x)) : Nm y := s.nm y (nbr_in s.fl.gr (srt_mem.mp h))
theorem Sml.own (s : Sml g) {m : Msg} {x : Str} (h : m ∈ g.lg x) : Nm m.1 := s.nm _ (s.fl.own m (s.fl.sub x m h)).1
theorem Sml.free (s : Sml g) {x : Str} (hx : x ∈ g.hs) : Free (stOf g x) := ⟨rfl, rfl, Nat.le_trans (s.lkl x) (by decide), pw_sorted (srt_pw _), by
  show ((g.lg x).map logM).length ≤ 1000
  rw [List.length_map]
  have := s.lgl x
  omega, s.nm x hx⟩
theorem pair_bd {a b : Str} (h1 : A0 (.str a)) (h2 : A0 (.str b)) : Bd 5 1000 (.tuple [.str a, .str b]) := (Bd.tup (n := 1) (W := 120) (L := 2) (fun e he => by
  simp only [List.mem_cons, List.not_mem_nil, or_false] at he
  rcases he with rfl | rfl
  · exact h1
  · exact h2) (by show 2 ≤ 2; decide) (by decide)).mono (by decide) (by decide)
theorem Sml.fits (s : Sml g) {x : Str} (hx : x ∈ g.hs) : Fits (shownD (stOf g x)) := by
  refine st_fits (s.nm x hx) (fun y hy => s.lkn hy) (Nat.le_trans (s.lkl x) (by decide)) (fun d hd => ?_) ?_ rfl rfl (.inl rfl) (fun xs c e => nomatch e)
  · obtain ⟨m, hm, rfl⟩ := List.mem_map.mp (show d ∈ (g.lg x).map logM from hd)
    exact pair_bd (a0_nm (s.own hm)) (s.wd m (s.fl.sub x m hm)).2
  · show ((g.lg x).map logM).length ≤ 14
    rw [List.length_map]
    have := s.lgl x
    omega
/-- what a host sends on -/
def outG (g : GS) (x : Str) (src : Option Str) (m : Msg) : List (Str × PyData) := (gls src (srt (nbr g.ps x))).map fun y => (y, itM m)
theorem spread_out (x : Str) (src : Option Str) (m : Msg) : spread (stOf g x) src m.1 m.2 = toP (outG g x src m) := by
  unfold spread toP outG
  rw [List.map_map, List.map_map]
  rfl
theorem outG_len (s : Sml g) (x : Str) (src : Option Str) (m : Msg) : (outG g x src m).length ≤ 11 := by
  unfold outG
  rw [List.length_map]
  exact Nat.le_trans (List.length_filter_le _ _) (s.lkl x)
theorem outG_mem (s : Sml g) {x : Str} {src : Option Str} {m : Msg} {q : Str × PyData} (h : q ∈ outG g x src m) : q.1 ∈ g.hs := by
  obtain ⟨y, hy, rfl⟩ := List.mem_map.mp h
  exact nbr_in s.fl.gr (srt_mem.mp (List.mem_filter.mp hy).1)
theorem out_fits (s : Sml g) {x : Str} {src : Option Str} {m : Msg} (h1 : Nm m.1) (h2 : A0 (.str m.2)) : Fits (.list (toP (outG g x src m))) := by
  refine (Bd.lst (n := 5) (W := 4000) (L := 14) (fun d hd => ?_) (by
    show (toP (outG g x src m)).length ≤ 14
    unfold toP
    rw [List.length_map]
    have := outG_len s x src m
    omega) (by decide)).fits (by decide) (by decide)
  obtain ⟨q, hq, rfl⟩ := List.mem_map.mp hd
  obtain ⟨y, hy, rfl⟩ := List.mem_map.mp hq
  have ny := s.lkn (List.mem_filter.mp hy).1
  refine (Bd.tup (n := 4) (W := 1000) (L := 2) (fun e he => ?_) (by show 2 ≤ 2; decide) (by decide)).mono (by decide) (by decide)
  simp only [List.mem_cons, List.not_mem_nil, or_false] at he
  rcases he with rfl | rfl
  · exact (a0_nm ny).mono (by decide) (by decide)
  · refine (Bd.tup (n := 1) (W := 120) (L := 4) (fun e he => ?_) (by show 4 ≤ 4; decide) (by decide)).mono (by decide) (by decide)
    simp only [List.mem_cons, List.not_mem_nil, or_false] at he
    rcases he with rfl | rfl | rfl | rfl
    · exact a0_txt
    · exact a0_nm h1
    · exact h2
    · exact a0_nat (n := 0) (by decide)
theorem postF_map {src : Str} {d : PyData} {j : Str × Str} : ∀ {ys : List Str} {fl : Str × Str → List PyData}, ys.Nodup → postF src (ys.map fun y => (y, d)) fl j = if j.1 = src ∧ j.2 ∈ ys then fl j ++ [d] else fl j
  | [], fl, _ => by
    rw [if_neg fun z => nomatch z.2]
    rfl
  | y :: ys, fl, nd => by
    obtain ⟨n1, n2⟩ := List.nodup_cons.mp nd
    show postF src (ys.map fun y => (y, d)) (addF fl (src, y) d) j = _
    rw [postF_map n2]
    unfold addF
    by_cases e : j = (src, y)
    · rw [e, if_pos rfl, if_neg fun z => n1 z.2, if_pos ⟨rfl, List.mem_cons_self⟩]
    · rw [if_neg e]
      by_cases c : j.1 = src ∧ j.2 ∈ ys
      · rw [if_pos c, if_pos ⟨c.1, List.mem_cons_of_mem _ c.2⟩]
      · rw [if_neg c, if_neg fun z => ?_]
        rcases List.mem_cons.mp z.2 with w | w
        · exact e (Prod.ext z.1 w)
        · exact c ⟨z.1, w⟩
theorem gls_mem {src : Option Str} {ys : List Str} {y : Str} : y ∈ gls src ys ↔ y ∈ ys ∧ V.str y ≠ optV src := by
  unfold gls
  rw [List.mem_filter]
  simp
theorem gls_nd {src : Option Str} {ys : List Str} (h : ys.Nodup) : (gls src ys).Nodup := h.filter _
theorem flOf_wrote (s : Sml g) {u : Str} {m : Msg} : postF u (outG g u none m) (flOf g) = flOf (g.wrote u m) := by
  funext k
  unfold outG
  rw [postF_map (gls_nd (srt_nd.mpr (nbr_nd s.fl.gr u)))]
  have hh : (k.1 = u ∧ k.2 ∈ gls none (srt (nbr g.ps u))) ↔ (k.1 = u ∧ Aj g.ps u k.2) := by
    rw [gls_mem, srt_mem, nbr_mem]
    exact ⟨fun z => ⟨z.1, z.2.1⟩, fun z => ⟨z.1, z.2, fun w => nomatch w⟩⟩
  show _ = ((g.wrote u m).fl k).map itM
  unfold GS.wrote
  dsimp only
  by_cases c : k.1 = u ∧ Aj g.ps u k.2
  · rw [if_pos (hh.mpr c), if_pos c, List.map_append]
    rfl
  · rw [if_neg fun z => c (hh.mp z), if_neg c]
    rfl
theorem flOf_got (s : Sml g) {u v : Str} {m : Msg} {rest : List Msg} (hf : g.fl (u, v) = m :: rest) : postF v (outG g v (some u) m) (fun j => if j = (u, v) then rest.map itM else flOf g j) = flOf (g.got u v m rest) := by
  obtain ⟨uv, _, _⟩ := s.fl.sent (u := u) (v := v) (m := m) (by rw [hf]; exact List.mem_cons_self)
  have ne := s.fl.gr.irr uv
  funext k
  unfold outG
  rw [postF_map (gls_nd (srt_nd.mpr (nbr_nd s.fl.gr v)))]
  have hh : (k.1 = v ∧ k.2 ∈ gls (some u) (srt (nbr g.ps v))) ↔ (k.1 = v ∧ Aj g.ps v k.2 ∧ k.2 ≠ u) := by
    rw [gls_mem, srt_mem, nbr_mem]
    exact ⟨fun z => ⟨z.1, z.2.1, fun w => z.2.2 (by rw [w]; rfl)⟩, fun z => ⟨z.1, z.2.1, fun w => z.2.2 (by injection w)⟩⟩
  show _ = ((g.got u v m rest).fl k).map itM
  unfold GS.got
  dsimp only
  by_cases e : k = (u, v)
  · rw [if_pos e, if_pos e, if_neg fun z => ne (by rw [← z.1, e])]
  · rw [if_neg e, if_neg e]
    by_cases c : k.1 = v ∧ Aj g.ps v k.2 ∧ k.2 ≠ u
    · rw [if_pos (hh.mpr c), if_pos c, List.map_append]
      rfl
    · rw [if_neg fun z => c (hh.mp z), if_neg c]
      rfl
theorem stOf_wrote {u : Str} {m : Msg} : (fun y => if y = u then logged (stOf g u) m.1 m.2 else stOf g y) = stOf (g.wrote u m) := by
  funext y
  by_cases e : y = u
  · rw [if_pos e, e]
    show HS.mk _ _ ((g.lg u).map logM ++ [logD m.1 m.2]) _ _ _ _ = HS.mk _ _ (((g.wrote u m).lg u).map logM) _ _ _ _
    rw [show (g.wrote u m).lg u = g.lg u ++ [m] from if_pos rfl, List.map_append]
    rfl
  · rw [if_neg e]
    show HS.mk _ _ ((g.lg y).map logM) _ _ _ _ = HS.mk _ _ (((g.wrote u m).lg y).map logM) _ _ _ _
    rw [show (g.wrote u m).lg y = g.lg y from if_neg e]
    rfl
theorem stOf_got {u v : Str} {m : Msg} {rest : List Msg} : (fun y => if y = v then logged (stOf g v) m.1 m.2 else stOf g y) = stOf (g.got u v m rest) := by
  funext y
  by_cases e : y = v
  · rw [if_pos e, e]
    show HS.mk _ _ ((g.lg v).map logM ++ [logD m.1 m.2]) _ _ _ _ = HS.mk _ _ (((g.got u v m rest).lg v).map logM) _ _ _ _
    rw [show (g.got u v m rest).lg v = g.lg v ++ [m] from if_pos rfl, List.map_append]
    rfl
  · rw [if_neg e]
    show HS.mk _ _ ((g.lg y).map logM) _ _ _ _ = HS.mk _ _ (((g.got u v m rest).lg y).map logM) _ _ _ _
    rw [show (g.got u v m rest).lg y = g.lg y from if_neg e]
    rfl
theorem Sml.got (s : Sml g) {u v : Str} {m : Msg} {rest : List Msg} (hf : g.fl (u, v) = m :: rest) : Sml (g.got u v m rest) := ⟨s.fl.get hf, s.nm, s.hl, s.wl, s.wd⟩
theorem Sml.wrote (s : Sml g) {u : Str} {m : Msg} (hu : u ∈ g.hs) (hm : m ∉ g.ws) (e : m.1 = u) (l : g.ws.length < 12) (h1 : isWord (.str m.2) = true) (h2 : A0 (.str m.2)) : Sml (g.wrote u m) := ⟨s.fl.write hu hm e, s.nm, s.hl, by
  show (g.ws ++ [m]).length ≤ 12
  rw [List.length_append]
  exact l, fun n hn => by
  rcases List.mem_append.mp hn with z | z
  · exact s.wd n z
  · rw [List.mem_singleton.mp z]
    exact ⟨h1, h2⟩⟩
end
/-- the keys lie between hosts -/
def KsIn (hs : List Str) (ks : List (Str × Str)) : Prop := ∀ k ∈ ks, k.1 ∈ hs ∧ k.2 ∈ hs
theorem KsIn.put {hs : List Str} {ks : List (Str × Str)} {k : Str × Str} (h : KsIn hs ks) (a : k.1 ∈ hs) (b : k.2 ∈ hs) : KsIn hs (putKs ks k) := fun j hj => by
  unfold putKs at hj
  split at hj
  · exact h j hj
  · rcases List.mem_append.mp hj with z | z
    · exact h j z
    · rw [List.mem_singleton.mp z]
      exact ⟨a, b⟩
theorem KsIn.post {hs : List Str} {src : Str} (a : src ∈ hs) {gs : List (Str × PyData)} : ∀ {ks : List (Str × Str)}, KsIn hs ks → (∀ q ∈ gs, q.1 ∈ hs) → KsIn hs (postK src gs ks) := by
  induction gs with
  | nil => exact fun h _ => h
  | cons q gs ih =>
    intro ks h b
    exact ih (ks := putKs ks (src, q.1)) (h.put a (b q List.mem_cons_self)) fun x hx => b x (List.mem_cons_of_mem _ hx)
theorem prod_len {α β : Type} : ∀ (xs : List α) (ys : List β), (xs.flatMap fun x => ys.map fun y => (x, y)).length = xs.length * ys.length
  | [], ys => by simp
  | x :: xs, ys => by rw [List.flatMap_cons, List.length_append, prod_len xs ys, List.length_map, List.length_cons, Nat.add_mul, Nat.one_mul, Nat.add_comm]
theorem KsIn.len {hs : List Str} {ks : List (Str × Str)} (h : KsIn hs ks) (nd : ks.Nodup) (l : hs.length ≤ 11) : ks.length ≤ 121 := by
  have := nd_len nd (k := hs.flatMap fun x => hs.map fun y => (x, y)) fun k hk => List.mem_flatMap.mpr ⟨k.1, (h k hk).1, List.mem_map.mpr ⟨k.2, (h k hk).2, rfl⟩⟩
  rw [prod_len] at this
  exact Nat.le_trans this (Nat.mul_le_mul l l)
end My

namespace My
open PySem PySem.Spec PyProof.Rows L2 Gy Xl Xs Xt Xo Xp Xu
def KEYS : List Str := ["name", "log", "links", "answers", "relink", "phase", "queue"]
def mvals (st : HS) (am : HA) : List V := [.str st.nm, .ref am.Ll, .ref am.Lk, .ref am.La, am.jv, .str st.sg, .ref am.Lq]
theorem keys_val {st : HS} {am : HA} : ∀ {i : Nat} {k : Str}, KEYS[i]? = some k → ∃ v, (mvals st am)[i]? = some v ∧ valV (mdl st am) (.inr k) = some v
  | 0, k, e => by cases e; exact ⟨_, rfl, rfl⟩
  | 1, k, e => by cases e; exact ⟨_, rfl, rfl⟩
  | 2, k, e => by cases e; exact ⟨_, rfl, rfl⟩
  | 3, k, e => by cases e; exact ⟨_, rfl, rfl⟩
  | 4, k, e => by cases e; exact ⟨_, rfl, rfl⟩
  | 5, k, e => by cases e; exact ⟨_, rfl, rfl⟩
  | 6, k, e => by cases e; exact ⟨_, rfl, rfl⟩
  | n + 7, k, e => by simp [KEYS] at e
section
variable {P : Program} {w : World} {K : PySem.W.Frag} {mg : Str → Option Value} {base : Heap} {H H1 H2 : Hp} {C : Addr}
def spAgr (K : PySem.W.Frag) (C : Addr) : Sp := fun vs H Q _ => ∃ (h m : Addr) (st : HS) (ad am : HA), vs = [.ref h, .ref m] ∧ Hst K C H h st ad ∧ Mst K H m st am ∧ (∀ xs c, st.jn = some (xs, c) → 0 < xs.length) ∧ Fits (shownD st) ∧ ∀ H', Same H H' → Q (.bl true) H'
theorem ok_agr {f : Addr} {fd : FuncData} (F : Fun K "_law_agrees" "_law_agrees" s_law_agrees f fd) (Y : Bn mg) (T : Ch K C) (G_law_shown : Fg P w K mg base CX0 2 "_law_shown" ["_law_host"] (spShown K C)) (M_waits_for : Fm P w K mg base CX0 1 C "waits_for" ["self"] (spWait K C)) (G_law_awaited : Fk P w K mg base CX0 1 "_law_awaited" ["_law_model"] (spAw K)) :
    FnG P w K mg base CX0 3 f fd ["_law_host", "_law_model"] (spAgr K C) := by
  obtain ⟨_, _, MM_waits_for, MB_waits_for, MF_waits_for⟩ := M_waits_for.ex
  refine fun_g0 F sc_law_agrees (fun {vs H Q E} h => ?_) (fun cdv A outer s H vs Q E gd hr h => ?_)
  · obtain ⟨h, m, st, ad, am, rfl, _⟩ := h
    rfl
  · obtain ⟨h, m, st, ad, am, rfl, hx, mx, l0, ft, q⟩ := h
    have hu70 := Room.units70 hr
    have hu1 := hu_of hr
    refine ⟨_, (pss_cons (ps_set (i := 2) sc_law_agrees.nd rfl (.inl rfl) (pe_tupZ (pa_cons pe_str (pa_cons pe_str (pa_cons pe_str (pa_cons pe_str (pa_cons pe_str (pa_cons pe_str (pa_cons pe_str pa_nil)))))))))
 (pss_one (ps_ret (pe_and (pe_cmpR op_eq (pe_callFg (E := E0) G_law_shown gd (hr.mono (by decide)) (by rfl) pass0 (pa_cons (pv 0) pa_nil)) (pe_callB (show CallR _ (.builtin "repr") (rReprN K) from repr_dn gd hu70) (by rfl) Y.repr (by decide +kernel) (pa_cons (pe_lc (own := [("_law_key", 3)]) (g := gName 3) (tt := tYes) rfl sc_law_agrees.nd (pi_tup (pv 2)) (blkOk_by (N := ["_law_host", "_law_model", "_law_keys", "_law_key"]) (sc := defScope s_law_agrees) (by decide +kernel)) (fun _ _ _ _ _ => (pg_name (i := 3) sc_law_agrees.nd rfl (Or.inl rfl))) (fun _ _ _ _ _ => pts_nil) (fun _ _ _ _ _ => (pe_dget hu1 (pv 1) (pv 3) (fun _ _ => rfl)))) pa_nil)) (nomark _)) (pe_one (pe_cmpR op_eq (pe_meth0 (pv 0) T.cl MM_waits_for MF_waits_for (hr.mono (by decide)) MB_waits_for .nil pass0) (pe_callF G_law_awaited (hr.mono (by decide)) (by rfl) pass0 (pa_cons (pv 1) pa_nil)) (nomark _))))))), ?_⟩
    refine ⟨(by show 7 ≤ sizeLine; decide), fun t o nt s1 z1 => ?_⟩
    generalize upd H t o = H1 at s1 z1 ⊢
    refine ⟨_, rfl, h, st, ad, rfl, hx.same s1, ft, fun H2 s2 => ?_⟩
    have z2 := z1.same s2
    have s02 := s1.trans s2
    have mx2 := mx.same s02
    refine ⟨_, rfl, t, rfl, ⟨_, z2.sq⟩, fun D nD => ?_⟩
    refine lc_it (walk_tup (K := K) (a := t) (xs := KEYS.map V.str)) (fun i H' => Same H2 H' ∧ H' D = some (.lst ((mvals st am).take i)))
      ⟨same_upd nD, upd_same⟩ (fun i H' _ hI => (z2.same hI.1).sq) ?_ ?_
    · rintro i y H3 H4 hi ⟨s3, hD⟩ ⟨rfl, hy⟩
      rw [List.getElem?_map] at hy
      obtain ⟨k, hk, rfl⟩ := Option.map_eq_some_iff.mp hy
      obtain ⟨v, hv, ev⟩ := keys_val (st := st) (am := am) hk
      refine ⟨rfl, ?_⟩
      dsimp only [tYes]
      refine iteT ?_
      have g := DGet.k (k := .inr k) (mx2.same s3).at_
      rw [ev] at g
      refine ⟨_, rfl, _, rfl, m, v, rfl, g, _, hD, ?_, same_upd2 s3 nD, ?_⟩
      · refine small200 (Nat.le_trans (List.length_take_le _ _) ?_)
        have : i < 7 := hi
        omega
      · rw [upd_same, List.take_add_one, hv]
        rfl
    · rintro H3 ⟨s3, hD⟩
      have hD : H3 D = some (.lst (mvals st am)) := hD
      have mx3 := mx2.same s3
      obtain ⟨vl, el, dl⟩ := mx3.lg
      obtain ⟨vq, eq, dq⟩ := mx3.qu
      obtain ⟨va, ea, da⟩ := mx3.an
      have f := fz_same H3
      have dd : Dn K H3 (.ref D) (shownD st) := .lst hD (.cons (.str _) (.cons (.lst el (dl.same f)) (.cons (.lst mx3.lk (dns_strs' _)) (.cons (.lst ea (da.same f)) (.cons (jn_dn (mx3.jn.same f)) (.cons (.str _) (.cons (.lst eq (dq.same f)) .nil)))))))
      refine ⟨_, _, rfl, dd, ft.1, ft.2.1, ft.2.2, rfl, _, rfl, ?_⟩
      rw [decide_eq_true rfl]
      have s03 := s02.trans s3
      refine iteT ⟨_, rfl, h, ad.dx, _, rfl, (hx.same s03).at_, (by rfl), h, st, ad, rfl, hx.same s03, l0, _, rfl, m, st, am, rfl, mx3, l0, (by cases awt st <;> rfl), ?_⟩
      rw [decide_eq_true rfl]
      exact q _ s03
end
end My

namespace My
open PySem PySem.Spec PyProof.Rows L2 Gy Xl Xs Xt Xo Xp Xu Xd
/-! ### a host acts, its model beside it -/
section
variable {P : Program} {w : World} {K : PySem.W.Frag} {mg : Str → Option Value} {base : Heap} {C : Addr} {H H1 H2 : Hp} {t : Tag → Prop} {τ τ1 : Tg} {W : WA} {hs : List Str} {ks ks' : List (Str × Str)} {fl fl' : Str × Str → List PyData} {sh sm : Str → HS} {h m : Addr} {x : Str} {st st' : HS}
theorem HwA.act0 {ad : HA} (w : HwA K C H τ h x st ad) (c : Ac K C h ad H H1 st' ad) : Kt (· = .ho x) τ τ H H1 ∧ HwA K C H1 τ h x st' ad := by
  obtain ⟨hx, t0, tt⟩ := w
  refine ⟨⟨fun a o e n => ?_, fun _ _ => rfl, c.off.dm, c.fk, fun k a n e => k a n (c.off.dm a e)⟩, c.hx, t0, tt⟩
  have ne : ∀ b, τ b = some (.ho x) → a ≠ b := fun b eb z => n (.ho x) (z ▸ eb) rfl
  exact c.off.st a o e (ne h t0) (ne _ (tt ad.Ll (by simp))) (ne _ (tt ad.Lq (by simp))) (ne _ (tt ad.La (by simp)))
theorem MwA.act0 {ad : HA} (w : MwA K H τ m x st ad) (c : Am K m ad H H1 st' ad) : Kt (· = .mo x) τ τ H H1 ∧ MwA K H1 τ m x st' ad := by
  obtain ⟨hx, t0, tt⟩ := w
  refine ⟨⟨fun a o e n => ?_, fun _ _ => rfl, c.off.dm, c.fk, fun k a n e => k a n (c.off.dm a e)⟩, c.hx, t0, tt⟩
  have ne : ∀ b, τ b = some (.mo x) → a ≠ b := fun b eb z => n (.mo x) (z ▸ eb) rfl
  exact c.off.st a o e (ne m t0) (ne _ (tt ad.Ll (by simp))) (ne _ (tt ad.Lq (by simp))) (ne _ (tt ad.La (by simp)))
theorem Wd.new (w : Wd K C H τ W hs ks fl sh sm) {L : Addr} (n : H L = none) : τ L = none := by
  cases e : τ L with
  | none => rfl
  | some u => exact absurd n (w.tk L (by rw [e]; exact fun z => nomatch z))
def spActed (K : PySem.W.Frag) (C : Addr) : Sp := fun vs H Q _ => ∃ (τ : Tg) (W : WA) (hs : List Str) (ks : List (Str × Str)) (fl : Str × Str → List PyData) (sh sm : Str → HS) (x : Str) (Lt Ld : Addr) (ut ud : List V) (gs : List (Str × PyData)), vs = [.ref W.D, .str x, .ref Lt, .ref Ld] ∧ Wd K C H τ W hs ks fl sh sm ∧ x ∈ hs ∧ sm x = sh x ∧ (sh x).jn = none ∧ Fits (shownD (sh x)) ∧
  H Lt = some (.lst ut) ∧ τ Lt = none ∧ Dns K (fz H) ut (toP gs) ∧ H Ld = some (.lst ud) ∧ τ Ld = none ∧ Dns K (fz H) ud (toP gs) ∧ Fits (.list (toP gs)) ∧ (∀ g ∈ gs, g.1 ∈ hs) ∧ gs.length ≤ 20 ∧ ks.length ≤ 400 ∧ (∀ k, (fl k).length ≤ 400) ∧
  ∀ H' τ' fa, Kt Tf τ τ' H H' → Wd K C H' τ' (Tch W fa) hs (postK x gs ks) (postF x gs fl) sh sm → Q (.bl true) H'
theorem ok_acted {f : Addr} {fd : FuncData} (F : Fun K "_law_acted" "_law_acted" s_law_acted f fd) (Y : Bn mg) (G_law_posted : Fk P w K mg base CX0 1 "_law_posted" ["_law_world_here", "_law_source", "_law_sends"] (spPosted K C)) (G_law_agrees : Fg P w K mg base CX0 3 "_law_agrees" ["_law_host", "_law_model"] (spAgr K C)) :
    FnG P w K mg base CX0 4 f fd ["_law_world_here", "_law_name_here", "_law_told", "_law_due"] (spActed K C) := by
  refine fun_g0 F sc_law_acted (fun {vs H Q E} h => ?_) (fun cdv A outer s H vs Q E gd hr h => ?_)
  · obtain ⟨τ, W, hs, ks, fl, sh, sm, x, Lt, Ld, ut, ud, gs, rfl, _⟩ := h
    rfl
  · obtain ⟨τ, W, hs, ks, fl, sh, sm, x, Lt, Ld, ut, ud, gs, rfl, wd, hx, es, ej, ft, et, nt, dt, ed, nd, dd, fg, gm, gl, kl, fll, q⟩ := h
    have hu70 := Room.units70 hr
    have hu1 := hu_of hr
    refine ⟨_, (pss_cons (ps_expr (pe_callF G_law_posted (hr.mono (by decide)) (by rfl) pass0 (pa_cons (pv 0) (pa_cons (pv 1) (pa_cons (pv 3) pa_nil)))))
 (pss_one (ps_ret (pe_and (pe_cmpR op_eq (pe_callB (show CallR _ (.builtin "repr") (rReprN K) from repr_dn gd hu70) (by rfl) Y.repr (by decide +kernel) (pa_cons (pv 2) pa_nil)) (pe_callB (show CallR _ (.builtin "repr") (rReprN K) from repr_dn gd hu70) (by rfl) Y.repr (by decide +kernel) (pa_cons (pv 3) pa_nil)) (nomark _)) (pe_one (pe_callFg (E := E0) G_law_agrees gd (hr.mono (by decide)) (by rfl) pass0 (pa_cons (pe_dget hu1 (pe_dget hu1 (pv 0) pe_str (fun _ _ => rfl)) (pv 1) (fun _ _ => rfl)) (pa_cons (pe_dget hu1 (pe_dget hu1 (pv 0) pe_str (fun _ _ => rfl)) (pv 1) (fun _ _ => rfl)) pa_nil)))))))), ?_⟩
    refine ⟨_, rfl, _, rfl, _, rfl, τ, W, hs, ks, fl, sh, sm, x, Ld, ud, gs, rfl, wd, ed, nd, dd, gm, gl, kl, fll, fun H1 τ1 fa k1 w1 => ?_⟩
    have et1 := (k1.no_ et nt).1
    have ed1 := (k1.no_ ed nd).1
    have f1 := fz_keep k1.fk
    have dT : Dn K H1 (.ref Lt) (.list (toP gs)) := .lst et1 ((dt.same f1).same (fz_same H1))
    have dD : Dn K H1 (.ref Ld) (.list (toP gs)) := .lst ed1 ((dd.same f1).same (fz_same H1))
    refine ⟨_, rfl, _, _, rfl, dT, fg.1, fg.2.1, fg.2.2, _, rfl, _, _, rfl, dD, fg.1, fg.2.1, fg.2.2, rfl, _, rfl, ?_⟩
    rw [decide_eq_true rfl]
    obtain ⟨ad, hw, _⟩ := w1.hw x hx
    obtain ⟨am, mw, _⟩ := w1.mw x hx
    refine iteT ⟨_, rfl, W.D, _, rfl, w1.gH, _, rfl, W.hD, _, rfl, w1.gh hx, _, rfl, W.D, _, rfl, w1.gM, _, rfl, W.mD, _, rfl, w1.gm hx, W.ha x, W.ma x, sh x, ad, am, rfl, hw, (by rw [es] at mw; exact mw), (fun xs c e => by rw [ej] at e; cases e), ft, fun H2 s2 => ?_⟩
    exact q H2 τ1 fa (k1.trans (Kt.same s2)) (w1.same s2)
end
end My

namespace My
open PySem PySem.Spec PyProof.Rows L2 Gy Xl Xs Xt Xo Xp Xu Xd
/-! ### a message is delivered; a host writes -/
structure Sim (K : PySem.W.Frag) (C : Addr) (H : Hp) (τ : Tg) (W : WA) (ks : List (Str × Str)) (g : GS) : Prop where
  w : Wd K C H τ W g.hs ks (flOf g) (stOf g) (stOf g)
  s : Sml g
  k : KsIn g.hs ks
def Tw (t : Tag) : Prop := Tf t ∨ (∃ x, t = .ho x) ∨ ∃ x, t = .mo x
section
variable {P : Program} {w : World} {K : PySem.W.Frag} {mg : Str → Option Value} {base : Heap} {C : Addr} {H H1 H2 : Hp} {t : Tag → Prop} {τ τ1 : Tg} {W : WA} {hs : List Str} {ks ks' : List (Str × Str)} {fl fl' : Str × Str → List PyData} {sh sm : Str → HS} {h m : Addr} {x : Str} {st st' : HS} {g : GS}
theorem Sim.kl (z : Sim K C H τ W ks g) : ks.length ≤ 121 := z.k.len z.w.kn z.s.hl
/-- the first item of a channel is taken -/
theorem Wd.pop {k : Str × Str} {d : PyData} {ds : List PyData} (w : Wd K C H τ W hs ks fl sh sm) (e : fl k = d :: ds) : k ∈ ks ∧ ∃ v us, H (W.fa k) = some (.lst (v :: us)) ∧ Dn K (fz H) v d ∧ Kt Tf τ τ H (upd H (W.fa k) (.lst us)) ∧ Wd K C (upd H (W.fa k) (.lst us)) τ W hs ks (fun j => if j = k then ds else fl j) sh sm := by
  have m : k ∈ ks := by
    by_cases m : k ∈ ks
    · exact m
    · rw [w.f0 k m] at e
      cases e
  obtain ⟨a, us0, b, c⟩ := w.fw k m
  rw [e] at c
  cases c with
  | @cons v us _ _ c1 c2 =>
    have kt : Kt Tf τ τ H (upd H (W.fa k) (.lst us)) := (Kt.same (Same.refl H)).updT fun o e => ⟨⟨_, a, .inr ⟨k, rfl⟩⟩, fun _ _ z => by rw [b] at e; injection e with e; rw [← e] at z; cases z⟩
    have fk1 : FzK H (upd H (W.fa k) (.lst us)) := kt.fk
    refine ⟨m, v, us, b, c1, kt, w.fly (fa' := W.fa) kt ?_ w.kn (fun j hj => ?_) (fun j hj => ?_)⟩
    · rw [upd_ne fun z => ?_]
      · exact w.f
      · have := w.f
        rw [z, b] at this
        cases this
    · obtain ⟨a', us', b', c'⟩ := w.fw j hj
      refine ⟨a', ?_⟩
      by_cases e : j = k
      · subst e
        rw [if_pos rfl]
        exact ⟨_, upd_same, c2.same (fz_keep fk1)⟩
      · rw [if_neg e]
        refine ⟨us', ?_, c'.same (fz_keep fk1)⟩
        rw [upd_ne fun z => ?_]
        · exact b'
        · rw [z, a] at a'
          injection a' with a'
          injection a' with a'
          exact e a'.symm
    · rw [if_neg fun z : j = k => hj (by rw [z]; exact m)]
      exact w.f0 j hj
theorem msg_at {H : Hp} {v : V} {a b : Str} (d : Dn K H v (msgI a b)) : ∃ ia, v = .ref ia ∧ Tz H ia [.str "message", .str a, .str b, .int 0] := by
  unfold msgI at d
  cases d with
  | tup h x =>
    cases x with
    | cons x1 x =>
      cases x with
      | cons x2 x =>
        cases x with
        | cons x3 x =>
          cases x with
          | cons x4 x =>
            cases x
            cases x1
            cases x2
            cases x3
            cases x4
            exact ⟨_, rfl, h⟩
theorem word_l20 {x : Str} (h : A0 (.str x)) : x.length ≤ 20 := by
  have := h.sm
  exact of_decide_eq_true this
def spDel (K : PySem.W.Frag) (C : Addr) : Sp := fun vs H Q _ => ∃ (τ : Tg) (W : WA) (ks : List (Str × Str)) (g : GS) (pa : Addr) (u v : Str) (m : Msg) (rest : List Msg), vs = [.ref W.D, .ref pa] ∧ Sim K C H τ W ks g ∧ Kp H (.ref pa) (u, v) ∧ g.fl (u, v) = m :: rest ∧
  ∀ H' fa ks' τ', Kt Tw τ τ' H H' → Sim K C H' τ' (Tch W fa) ks' (g.got u v m rest) → Q (.bl true) H'
theorem ok_del {f : Addr} {fd : FuncData} (F : Fun K "_law_delivered" "_law_delivered" s_law_delivered f fd) (Y : Bn mg) (T : Ch K C) (M_receive : Fm P w K mg base (L2.CX P w) 11 C "receive" ["self", "source", "item"] (spRecvM K C)) (G_law_received : Fk P w K mg base CX0 3 "_law_received" ["_law_model", "_law_source", "_law_item"] (spRecM K))
    (G_law_acted : Fg P w K mg base CX0 4 "_law_acted" ["_law_world_here", "_law_name_here", "_law_told", "_law_due"] (spActed K C)) : FnG P w K mg base CX0 12 f fd ["_law_world_here", "_law_pair"] (spDel K C) := by
  obtain ⟨_, _, MM_receive, MB_receive, MF_receive⟩ := M_receive.ex
  refine fun_g0 F sc_law_delivered (fun {vs H Q E} h => ?_) (fun cdv A outer s H vs Q E gd hr h => ?_)
  · obtain ⟨τ, W, ks, g, pa, u, v, m, rest, rfl, _⟩ := h
    rfl
  · obtain ⟨τ, W, ks, g, pa, u, v, m, rest, rfl, sim, kp, hf, q⟩ := h
    have hu1 := hu_of hr
    refine ⟨_, (pss_cons (ps_asg (pv 1) (pg_tup (by rfl) (pgs_cons (pg_name (i := 2) sc_law_delivered.nd rfl (Or.inl rfl)) (pgs_cons (pg_name (i := 3) sc_law_delivered.nd rfl (Or.inl rfl)) pgs_nil))))
 (pss_cons (ps_set (i := 4) sc_law_delivered.nd rfl (.inl rfl) (pe_bm PySem.F.plainAttrs_list PySem.F.slot_list_pop PySem.F.type_list_pop mt_popAt (pe_dget hu1 (pe_dget hu1 (pv 0) pe_str (fun _ _ => rfl)) (pv 1) (fun _ _ => rfl)) (pa_cons pe_int pa_nil)))
 (pss_cons (ps_set (i := 5) sc_law_delivered.nd rfl (.inl rfl) (pe_meth (E := fun _ _ _ => False) (pe_dget hu1 (pe_dget hu1 (pv 0) pe_str (fun _ _ => rfl)) (pv 3) (fun _ _ => rfl)) T.cl MM_receive MF_receive (hr.mono (by decide)) MB_receive .nil passN (pa_cons (pv 2) (pa_cons (pv 4) pa_nil))))
 (pss_one (ps_ret (pe_callFg (E := E0) G_law_acted gd (hr.mono (by decide)) (by rfl) pass0 (pa_cons (pv 0) (pa_cons (pv 3) (pa_cons (pv 5) (pa_cons (pe_callF G_law_received (hr.mono (by decide)) (by rfl) pass0 (pa_cons (pe_dget hu1 (pe_dget hu1 (pv 0) pe_str (fun _ _ => rfl)) (pv 3) (fun _ _ => rfl)) (pa_cons (pv 2) (pa_cons (pv 4) pa_nil)))) pa_nil)))))))))), ?_⟩
    obtain ⟨t, e, ep⟩ := kp
    cases e
    have sw := sim.w
    have fk0 : flOf g (u, v) = itM m :: rest.map itM := by
      show (g.fl (u, v)).map itM = _
      rw [hf]
      rfl
    obtain ⟨mk, i0, us, ef, di, k1, w1⟩ := sw.pop fk0
    obtain ⟨uv, hmu, _⟩ := sim.s.fl.sent (u := u) (v := v) (m := m) (by rw [hf]; exact List.mem_cons_self)
    obtain ⟨hu, hv⟩ := uv.mem sim.s.fl.gr
    have hv : v ∈ g.hs := hv
    have mw := sim.s.fl.sub u m hmu
    obtain ⟨wd1, wd2⟩ := sim.s.wd m mw
    have fr := sim.s.free hv
    obtain ⟨ia, rfl, zi⟩ := msg_at di
    refine ⟨_, rfl, pa, _, rfl, .inl (.inl ep), rfl, _, _, rfl, _, _, rfl, rfl, ?_⟩
    refine ⟨_, rfl, W.D, _, rfl, sw.gF, _, rfl, W.fD, _, rfl, sw.gf mk ep, .inl ⟨rfl, _, SqL.of ef⟩, W.fa (u, v), _, 0, 0, _, rfl, rfl, ef, (by decide), (by decide), PyProof.Rows.seqIndex?_zero (Nat.succ_pos _), rfl, ?_⟩
    show tNext _ _ (upd H (W.fa (u, v)) (.lst us))
    have zi1 := (zi.same (fz_keep k1.fk)).same (fz_same _)
    have d0 := k1.dm
    have nf : flOf g (u, v) ≠ [] := by rw [fk0]; exact fun z => nomatch z
    generalize upd H (W.fa (u, v)) (.lst us) = H1 at k1 w1 zi1 d0 ⊢
    dsimp only [tNext]
    obtain ⟨ad, hw⟩ := w1.hw v hv
    refine ⟨_, rfl, W.D, _, rfl, w1.gH, _, rfl, W.hD, _, rfl, w1.gh hv, W.ha v, ad.dx, _, rfl, hw.hs.at_, (by rfl), _, rfl, _, rfl, W.ha v, ia, u, m.1, m.2, stOf g v, ad, rfl, sim.s.nm u hu, sim.s.nm _ (sim.s.fl.own m mw).1, wd1, word_l20 wd2, hw.hs, zi1, fr, fun H2 L ul ac nL eL dL => ?_⟩
    obtain ⟨k2, hw2⟩ := hw.act0 ac
    have w2 := w1.stepH k2 ⟨ad, hw2⟩
    have tL : τ L = none := w1.new nL
    have zi2 := zi1.fzk k2.fk
    obtain ⟨am, mm⟩ := w2.mw v hv
    refine ⟨_, rfl, _, rfl, _, rfl, _, rfl, W.D, _, rfl, w2.gM, _, rfl, W.mD, _, rfl, w2.gm hv, _, rfl, _, rfl, W.ma v, ia, u, m.1, m.2, stOf g v, am, rfl, mm.hs, fr, zi2, fun H3 L2 ul2 am2 nL2 eL2 dL2 => ?_⟩
    obtain ⟨k3, mm3⟩ := mm.act0 am2
    have w3 := w2.stepM k3 ⟨am, mm3⟩
    have tL2 : τ L2 = none := w2.new nL2
    have eL3 := (k3.no_ eL tL).1
    rw [spread_out] at dL dL2
    have dL3 := dL.same (fz_keep k3.fk)
    have ks1 : ks.length ≤ 121 := sim.kl
    refine ⟨τ, W, g.hs, ks, (fun j => if j = (u, v) then rest.map itM else flOf g j), (fun y => if y = v then logged (stOf g v) m.1 m.2 else stOf g y), (fun y => if y = v then logged (stOf g v) m.1 m.2 else stOf g y), v, L, L2, ul, ul2, outG g v (some u) m, rfl, w3, hv, rfl, ?_, ?_, eL3, tL, dL3, eL2, tL2, dL2, out_fits sim.s (sim.s.nm _ (sim.s.fl.own m mw).1) wd2, fun q hq => outG_mem sim.s hq, Nat.le_trans (outG_len sim.s v _ m) (by decide), by omega, fun k => ?_, fun H4 τ4 fa k4 w4 => ?_⟩
    · rw [stOf_got (u := u) (rest := rest)]
      rfl
    · rw [stOf_got (u := u) (rest := rest)]
      exact (sim.s.got hf).fits hv
    · dsimp only
      have := sim.s.fll k
      split
      · have h2 := sim.s.fll (u, v)
        rw [hf, List.length_cons] at h2
        rw [List.length_map]
        omega
      · show ((g.fl k).map itM).length ≤ 400
        rw [List.length_map]
        omega
    · rw [stOf_got (u := u) (rest := rest), flOf_got sim.s hf] at w4
      have kk : Kt Tw τ τ4 H H4 := (((k1.mono fun _ z => .inl z).trans (k2.mono fun _ z => .inr (.inl ⟨v, z⟩))).trans (k3.mono fun _ z => .inr (.inr ⟨v, z⟩))).trans (k4.mono fun _ z => .inl z)
      exact q H4 fa _ τ4 kk ⟨w4, sim.s.got hf, KsIn.post hv sim.k fun q hq => outG_mem sim.s hq⟩
end
end My

namespace My
open PySem PySem.Spec PyProof.Rows L2 Gy Xl Xs Xt Xo Xp Xu Xd
/-! ### a new host and its model -/
theorem nkv_snoc {hs : List Str} {f : Str → Addr} {x : Str} {h : Addr} (n : x ∉ hs) : putK (nkv hs f) (.inr x) (.ref h) = nkv (hs ++ [x]) (fun y => if y = x then h else f y) := by
  have e : (nkv hs f).any (fun kv => decide (kv.1 = (Sum.inr x : L2.Key))) = false := by
    rw [List.any_eq_false]
    intro kv hkv
    obtain ⟨j, hj, rfl⟩ := List.mem_map.mp hkv
    rw [decide_eq_true_eq]
    exact fun z => n (by rw [← Sum.inr.inj z]; exact hj)
  unfold putK
  rw [e, if_neg Bool.false_ne_true]
  unfold nkv
  rw [List.map_append]
  congr 1
  · refine List.map_congr_left fun j hj => ?_
    dsimp only
    rw [if_neg fun z : j = x => n (by rw [← z]; exact hj)]
  · show [_] = [(Sum.inr x, V.ref (if x = x then h else f x))]
    rw [if_pos rfl]
section
variable {K : PySem.W.Frag} {C : Addr} {H H1 Hb Hd : Hp} {t : Tag → Prop} {τ τ1 : Tg} {W : WA} {hs : List Str} {ks : List (Str × Str)} {fl : Str × Str → List PyData} {sh sm : Str → HS} {x : Str} {h m : Addr} {st st2 : HS} {ad am : HA}
theorem Kt.give {u : Tag} {as : List Addr} (s : Same H H1) (all : ∀ a ∈ as, H1 a ≠ none) : Kt t τ (My.give τ H u as) H H1 := by
  have q := Kt.same (t := t) (τ := τ) s
  exact ⟨q.st, fun a n => give_old n, q.dm, q.fk, fun z => give_tk q.dm all z⟩
theorem hst_some (hx : Hst K C H h st ad) : ∀ a ∈ [h, ad.Lk, ad.Ll, ad.Lq, ad.La], H a ≠ none := fun a ha e => by
  obtain ⟨_, a1, _⟩ := hx.lg
  obtain ⟨_, a2, _⟩ := hx.qu
  obtain ⟨_, a3, _⟩ := hx.an
  simp only [List.mem_cons, List.not_mem_nil, or_false] at ha
  rcases ha with rfl | rfl | rfl | rfl | rfl
  · rw [hx.at_] at e; cases e
  · rw [hx.lk] at e; cases e
  · rw [a1] at e; cases e
  · rw [a2] at e; cases e
  · rw [a3] at e; cases e
theorem mst_some (hx : Mst K H h st ad) : ∀ a ∈ [h, ad.Lk, ad.Ll, ad.Lq, ad.La], H a ≠ none := fun a ha e => by
  obtain ⟨_, a1, _⟩ := hx.lg
  obtain ⟨_, a2, _⟩ := hx.qu
  obtain ⟨_, a3, _⟩ := hx.an
  simp only [List.mem_cons, List.not_mem_nil, or_false] at ha
  rcases ha with rfl | rfl | rfl | rfl | rfl
  · rw [hx.at_] at e; cases e
  · rw [hx.lk] at e; cases e
  · rw [a1] at e; cases e
  · rw [a2] at e; cases e
  · rw [a3] at e; cases e
def Td (t : Tag) : Prop := t = .dh ∨ t = .dm
def growA (W : WA) (x : Str) (h m : Addr) : WA := { W with ha := fun y => if y = x then h else W.ha y, ma := fun y => if y = x then m else W.ma y }
theorem Wd.grow (w : Wd K C H τ W hs ks fl sh sm) (nx : x ∉ hs) (s1 : Same H Hb) (hx : Hst K C Hb h st ad) (nh : ∀ a ∈ [h, ad.Lk, ad.Ll, ad.Lq, ad.La], H a = none)
    (s2 : Same (upd Hb W.hD (.dK (putK (nkv hs W.ha) (.inr x) (.ref h)))) Hd) (mx : Mst K Hd m st2 am) (nm : ∀ a ∈ [m, am.Lk, am.Ll, am.Lq, am.La], (upd Hb W.hD (.dK (putK (nkv hs W.ha) (.inr x) (.ref h)))) a = none) :
    ∃ τ', Kt Td τ τ' H (upd Hd W.mD (.dK (putK (nkv hs W.ma) (.inr x) (.ref m)))) ∧ Wd K C (upd Hd W.mD (.dK (putK (nkv hs W.ma) (.inr x) (.ref m)))) τ' (growA W x h m) (hs ++ [x]) ks fl (fun y => if y = x then st else sh y) (fun y => if y = x then st2 else sm y) := by
  have hn : H W.hD ≠ none := by rw [w.h]; exact fun z => nomatch z
  have mn : H W.mD ≠ none := by rw [w.m]; exact fun z => nomatch z
  have k1 : Kt Td τ (give τ H (.ho x) [h, ad.Lk, ad.Ll, ad.Lq, ad.La]) H Hb := Kt.give s1 (hst_some hx)
  have t1 : give τ H (.ho x) [h, ad.Lk, ad.Ll, ad.Lq, ad.La] W.hD = some .dh := by rw [give_old hn]; exact w.th
  have t1m : give τ H (.ho x) [h, ad.Lk, ad.Ll, ad.Lq, ad.La] W.mD = some .dm := by rw [give_old mn]; exact w.tm
  have hw1 : Hw K C Hb (give τ H (.ho x) [h, ad.Lk, ad.Ll, ad.Lq, ad.La]) h x st := ⟨ad, hx, give_new (nh h (by simp)) (by simp), fun a ha => give_new (nh a (List.mem_cons_of_mem _ ha)) (List.mem_cons_of_mem _ ha)⟩
  generalize give τ H (.ho x) [h, ad.Lk, ad.Ll, ad.Lq, ad.La] = τ1 at k1 t1 t1m hw1
  have eb := s1 _ _ w.h
  have k2 : Kt Td τ1 τ1 Hb (upd Hb W.hD (.dK (putK (nkv hs W.ha) (.inr x) (.ref h)))) := Kt.refl.updT fun o e => ⟨⟨_, t1, .inl rfl⟩, fun _ _ z => by rw [eb] at e; injection e with e; rw [← e] at z; cases z⟩
  have ec : (upd Hb W.hD (.dK (putK (nkv hs W.ha) (.inr x) (.ref h)))) W.hD = some (.dK (putK (nkv hs W.ha) (.inr x) (.ref h))) := upd_same
  have nhm : W.mD ≠ W.hD := fun z => by
    have := w.tm
    rw [z, w.th] at this
    cases this
  have em : (upd Hb W.hD (.dK (putK (nkv hs W.ha) (.inr x) (.ref h)))) W.mD = some (.dK (nkv hs W.ma)) := (upd_ne nhm).trans (s1 _ _ w.m)
  generalize upd Hb W.hD (.dK (putK (nkv hs W.ha) (.inr x) (.ref h))) = Hc at s2 nm k2 ec em
  have mcn : Hc W.mD ≠ none := by rw [em]; exact fun z => nomatch z
  have k3 : Kt Td τ1 (give τ1 Hc (.mo x) [m, am.Lk, am.Ll, am.Lq, am.La]) Hc Hd := Kt.give s2 (mst_some mx)
  have mw3 : Mw K Hd (give τ1 Hc (.mo x) [m, am.Lk, am.Ll, am.Lq, am.La]) m x st2 := ⟨am, mx, give_new (nm m (by simp)) (by simp), fun a ha => give_new (nm a (List.mem_cons_of_mem _ ha)) (List.mem_cons_of_mem _ ha)⟩
  have t3 : give τ1 Hc (.mo x) [m, am.Lk, am.Ll, am.Lq, am.La] W.mD = some .dm := by rw [give_old mcn]; exact t1m
  generalize give τ1 Hc (.mo x) [m, am.Lk, am.Ll, am.Lq, am.La] = τ3 at k3 mw3 t3
  have ed := s2 _ _ em
  have edh := s2 _ _ ec
  have k4 : Kt Td τ3 τ3 Hd (upd Hd W.mD (.dK (putK (nkv hs W.ma) (.inr x) (.ref m)))) := Kt.refl.updT fun o e => ⟨⟨_, t3, .inr rfl⟩, fun _ _ z => by rw [ed] at e; injection e with e; rw [← e] at z; cases z⟩
  have ee : (upd Hd W.mD (.dK (putK (nkv hs W.ma) (.inr x) (.ref m)))) W.mD = some (.dK (putK (nkv hs W.ma) (.inr x) (.ref m))) := upd_same
  have eh : (upd Hd W.mD (.dK (putK (nkv hs W.ma) (.inr x) (.ref m)))) W.hD = some (.dK (putK (nkv hs W.ha) (.inr x) (.ref h))) := (upd_ne fun z => nhm z.symm).trans edh
  generalize upd Hd W.mD (.dK (putK (nkv hs W.ma) (.inr x) (.ref m))) = He at k4 ee eh
  have kk := ((k1.trans k2).trans k3).trans k4
  have kb := (k2.trans k3).trans k4
  have nd : ∀ {u : Tag}, u ≠ .dh → u ≠ .dm → ¬ Td u := fun a b z => z.elim a b
  rw [nkv_snoc nx] at ee eh
  refine ⟨τ3, kk, ?_⟩
  refine ⟨(kk.at_ w.d w.td (nd (by simp) (by simp))).1, eh, ee, (kk.at_ w.f w.tf (nd (by simp) (by simp))).1, (kk.at_ w.d w.td (nd (by simp) (by simp))).2, by rw [show τ3 (growA W x h m).hD = τ W.hD from kk.tg _ hn]; exact w.th, by rw [show τ3 (growA W x h m).mD = τ W.mD from kk.tg _ mn]; exact w.tm, (kk.at_ w.f w.tf (nd (by simp) (by simp))).2, ?_, w.kn, fun y hy => ?_, fun y hy => ?_, fw_keep (W := W) w kk (fun _ => nd (by simp) (by simp)), w.f0, kk.tk w.tk⟩
  · exact List.nodup_append.mpr ⟨w.nd, List.nodup_cons.mpr ⟨(fun z => nomatch z), List.nodup_nil⟩, fun a ha b hb z => nx (by rw [List.mem_singleton] at hb; rw [← hb, ← z]; exact ha)⟩
  · show Hw K C He τ3 (if y = x then h else W.ha y) y (if y = x then st else sh y)
    by_cases e : y = x
    · rw [if_pos e, if_pos e, e]
      exact hw1.keep kb (nd (by simp) (by simp))
    · rw [if_neg e, if_neg e]
      have : y ∈ hs := by
        rcases List.mem_append.mp hy with z | z
        · exact z
        · exact absurd (List.mem_singleton.mp z) e
      exact (w.hw y this).keep kk (nd (by simp) (by simp))
  · show Mw K He τ3 (if y = x then m else W.ma y) y (if y = x then st2 else sm y)
    by_cases e : y = x
    · rw [if_pos e, if_pos e, e]
      exact mw3.keep k4 (nd (by simp) (by simp))
    · rw [if_neg e, if_neg e]
      have : y ∈ hs := by
        rcases List.mem_append.mp hy with z | z
        · exact z
        · exact absurd (List.mem_singleton.mp z) e
      exact (w.mw y this).keep kk (nd (by simp) (by simp))
end
end My

namespace My
open PySem PySem.Spec PyProof.Rows L2 Gy Xl Xs Xt Xo Xp
/-! ### a drawn tree -/
theorem prs_but {H H' : Hp} {r : Addr} (R : Rng H r) (b : But r H H') : ∀ {vs : List V} {ps : List (Str × Str)}, Xp.Prs H vs ps → Xp.Prs H' vs ps
  | _, _, .nil => .nil
  | _, _, .cons ⟨t, e, z⟩ p => .cons ⟨t, e, z.but R b⟩ (prs_but R b p)
theorem tz_updL {H : Hp} {a D : Addr} {xs l : List V} {o : HO} (h : Tz H a xs) (hD : H D = some (.lst l)) : Tz (upd H D o) a xs := by
  obtain ⟨u, e, c⟩ := h
  refine ⟨u, ?_, c⟩
  rw [upd_ne fun z => ?_]
  · exact e
  · rw [z, hD] at e
    cases e
theorem prs_updL {H : Hp} {D : Addr} {l : List V} {o : HO} (hD : H D = some (.lst l)) : ∀ {vs : List V} {ps : List (Str × Str)}, Xp.Prs H vs ps → Xp.Prs (upd H D o) vs ps
  | _, _, .nil => .nil
  | _, _, .cons ⟨t, e, z⟩ r => .cons ⟨t, e, tz_updL z hD⟩ (prs_updL hD r)
theorem prs_app {H : Hp} {vs us : List V} {ps qs : List (Str × Str)} (h : Xp.Prs H vs ps) (g : Xp.Prs H us qs) : Xp.Prs H (vs ++ us) (ps ++ qs) := by
  induction h with
  | nil => exact g
  | cons h t ih => exact .cons h ih
theorem prs_len {H : Hp} {vs : List V} {ps : List (Str × Str)} (h : Xp.Prs H vs ps) : vs.length = ps.length := by
  induction h with
  | nil => rfl
  | cons h t ih => rw [List.length_cons, List.length_cons, ih]
theorem same_none {H H' : Hp} {a : Addr} (s : Same H H') (n : H' a = none) : H a = none := by
  cases z : H a with
  | none => rfl
  | some o => rw [s _ _ z] at n; cases n
theorem at_inL {H : Hp} {a : Addr} {xs : List V} {d n : Int} (h : H a = some (.lst xs)) (l : (xs.length : Int) = n) (h0 : 0 ≤ d) (h1 : d < n) : ∃ v, atI xs d = some v ∧ v ∈ xs := at_in h0 (by rw [l]; exact h1)
def Tk2 (ns : List Str) (ls : List (Str × Str)) : Prop := ∃ r0, ns = hsT r0 ls ∧ Gr r0 ls
theorem Tk2.grow {ns : List Str} {ls : List (Str × Str)} {x pa : Str} (t : Tk2 ns ls) (mp : pa ∈ ns) (ox : x ∉ ns) : Tk2 (ns ++ [x]) (ls ++ [(x, pa)]) := by
  obtain ⟨r0, rfl, g⟩ := t
  exact ⟨r0, by rw [hsT_app]; rfl, g.snoc mp ox⟩
theorem Tk2.one (x : Str) : Tk2 [x] [] := ⟨x, rfl, Gr.nil x⟩
section
variable {P : Program} {w : World} {K : PySem.W.Frag} {mg : Str → Option Value} {base : Heap} {H : Hp}
def spTree : Sp := fun vs H Q _ => ∃ (r : Addr) (a b : Nat), vs = [.ref r, .int (a : Int), .int (b : Int)] ∧ Rng H r ∧ 1 ≤ a ∧ a ≤ b ∧ b ≤ 12 ∧
  ∀ (H' : Hp) (T L M : Addr) (ns : List Str) (us : List V) (ls : List (Str × Str)), But r H H' → Rng H' r → Tz H' T [.ref L, .ref M] → H L = none → H M = none → H' L = some (.lst (ns.map V.str)) → H' M = some (.lst us) → Xp.Prs H' us ls → Tk2 ns ls → (∀ x ∈ ns, Nm x) → a ≤ ns.length → ns.length ≤ b → Q (.ref T) H'
theorem ok_tree {f : Addr} {fd : FuncData} (F : Fun K "_law_tree" "_law_tree" s_law_tree f fd) (Y : Bn mg) (G_law_draw : Fk P w K mg base CX0 1 "_law_draw" ["_law_pot_here", "_law_count"] spDraw) (G_law_name : Fk P w K mg base CX0 2 "_law_name" ["_law_pot_here", "_law_used"] spName) : FnOk P w K mg base CX0 3 f fd ["_law_pot_here", "_law_least", "_law_most"] spTree := by
  refine F.ok sc_law_tree (fun vs H Q E h => ?_) (fun cdv A outer s H vs Q E hr h => ?_)
  · obtain ⟨r, a, b, rfl, _⟩ := h
    rfl
  · obtain ⟨r, a, b, rfl, R, a1, ab, b12, q⟩ := h
    refine ⟨_, (pss_cons (ps_par (i := 3) (j := 4) (by rfl) sc_law_tree.nd rfl rfl (by decide) rfl rfl (pa_cons (pe_lst pa_nil) (pa_cons (pe_lst pa_nil) pa_nil)) (by rfl))
 (pss_cons (ps_for PassesOwn.never rfl (pi_range1 (by rfl) Y.range (pa_cons (pe_op op_add (pv 1) (pe_callF G_law_draw (hr.mono (by decide)) (by rfl) pass0 (pa_cons (pv 0) (pa_cons (pe_op op_add (pe_op op_sub (pv 2) (pv 1)) pe_int) pa_nil)))) pa_nil)) (pg_name (i := 5) sc_law_tree.nd rfl (Or.inl rfl))
 (pss_cons (ps_expr (pe_bm PySem.F.plainAttrs_list PySem.F.slot_list_append PySem.F.type_list_append mt_append (pv 3) (pa_cons (pe_callF G_law_name (hr.mono (by decide)) (by rfl) pass0 (pa_cons (pv 0) (pa_cons (pv 3) pa_nil))) pa_nil)))
 (pss_one (ps_if (pt_cmpR op_gt (pv 5) pe_int (nomark _))
 (pss_cons (ps_set (i := 6) sc_law_tree.nd rfl (.inl rfl) (pe_ix ix_list (pe_lst (pa_cons (pe_ix ix_list (pv 3) (pe_op op_sub (pv 5) pe_int) (fun _ _ => rfl)) (pa_cons (pe_ix ix_list (pv 3) pe_int (fun _ _ => rfl)) (pa_cons (pe_ix ix_list (pv 3) (pe_callF G_law_draw (hr.mono (by decide)) (by rfl) pass0 (pa_cons (pv 0) (pa_cons (pv 5) pa_nil))) (fun _ _ => rfl)) pa_nil)))) (pe_callF G_law_draw (hr.mono (by decide)) (by rfl) pass0 (pa_cons (pv 0) (pa_cons pe_int pa_nil))) (fun _ _ => rfl)))
 (pss_one (ps_expr (pe_bm PySem.F.plainAttrs_list PySem.F.slot_list_append PySem.F.type_list_append mt_append (pv 4) (pa_cons (pe_tupZ (pa_cons (pe_ix ix_list (pv 3) (pv 5) (fun _ _ => rfl)) (pa_cons (pv 6) pa_nil))) pa_nil)))))
 pss_nil))))
 (pss_one (ps_ret (pe_tupZ (pa_cons (pv 3) (pa_cons (pv 4) pa_nil))))))), ?_⟩
    refine ⟨Nat.zero_le _, fun L nL => ?_⟩
    have neL := R.ne nL
    generalize hg : upd H L _ = H1
    obtain ⟨s1, g1⟩ := upd_new hg nL
    clear hg
    refine ⟨Nat.zero_le _, fun M nM => ?_⟩
    have R1 := R.same s1
    have neM := R1.ne nM
    have nLM : L ≠ M := ne_of_none g1 nM
    have nM0 := same_none s1 nM
    generalize hg : upd H1 M _ = H2
    obtain ⟨s2, g2⟩ := upd_new hg nM
    clear hg
    have R2 := R1.same s2
    have gL := s2 _ _ g1
    refine ⟨_, _, rfl, ?_⟩
    refine ⟨_, rfl, _, rfl, _, rfl, _, rfl, _, _, rfl, rfl, _, _, rfl, rfl, r, _, rfl, R2, by omega, by omega, fun H3 d b3 R3 d0 d1 => ?_⟩
    obtain ⟨d, rfl⟩ := Int.eq_ofNat_of_zero_le d0
    have gL := b3 _ _ neL gL
    have gM := b3 _ _ neM g2
    have b03 : But r H H3 := ((But.of s1).trans (But.of s2)).trans b3
    refine ⟨_, _, rfl, rfl, _, rfl, by omega, by omega, ?_⟩
    refine for_it (walk_range (lo := 0) (n := ((a : Int) + (d : Int) - 0).toNat)) (fun i σ H' => ∃ a5 a6, σ = [some (.ref r), some (.int (a : Int)), some (.int (b : Int)), some (.ref L), some (.ref M), a5, a6] ∧ But r H H' ∧ Rng H' r ∧ ∃ (ns : List Str) (us : List V) (ls : List (Str × Str)), H' L = some (.lst (ns.map V.str)) ∧ H' M = some (.lst us) ∧ Xp.Prs H' us ls ∧ ns.length = i ∧ (∀ x ∈ ns, Nm x) ∧ ns.Nodup ∧ ((i = 0 ∧ ls = []) ∨ (Tk2 ns ls ∧ ls.length + 1 = ns.length)))
      ⟨none, none, rfl, b03, R3, [], [], [], gL, gM, .nil, rfl, (fun _ z => nomatch z), List.nodup_nil, .inl ⟨rfl, rfl⟩⟩ (fun _ _ _ _ _ => trivial) ?_ ?_
    · rintro i y σ H4 H5 hi ⟨a5, a6, rfl, b4, R4, ns, us, ls, hL, hM, pr, ni, nm, nd, alt⟩ ⟨rfl, rfl⟩
      have i12 : i < 12 := by omega
      have ll : ls.length ≤ 12 := by
        rcases alt with ⟨_, rfl⟩ | ⟨_, e⟩
        · exact Nat.zero_le _
        · omega
      refine ⟨_, rfl, .inl ⟨rfl, _, SqL.of hL⟩, _, rfl, _, rfl, r, L, ns, rfl, R4, neL, hL, by omega, nm, fun H6 x b6 R6 nx ox => ?_⟩
      have hL6 := b6 _ _ neL hL
      have hM6 := b6 _ _ neM hM
      have pr6 := prs_but R4 b6 pr
      refine ⟨L, _, _, rfl, rfl, hL6, (by rw [List.length_map]; exact small200 (by omega)), ?_⟩
      have R7 := R6.upd2 (o := .lst (ns.map V.str ++ [.str x])) neL
      have b47 : But r H (upd H6 L (.lst (ns.map V.str ++ [.str x]))) := (b4.trans b6).upd nL
      have hM7 : (upd H6 L (.lst (ns.map V.str ++ [.str x]))) M = some (.lst us) := by rw [upd_ne nLM.symm]; exact hM6
      have hL7 : (upd H6 L (.lst (ns.map V.str ++ [.str x]))) L = some (.lst ((ns ++ [x]).map V.str)) := by rw [upd_same, List.map_append]; rfl
      have pr7 : Xp.Prs (upd H6 L (.lst (ns.map V.str ++ [.str x]))) us ls := prs_updL hL6 pr6
      generalize upd H6 L (.lst (ns.map V.str ++ [.str x])) = H7 at R7 b47 hM7 hL7 pr7 ⊢
      have nm7 : ∀ y ∈ ns ++ [x], Nm y := fun y hy => by
        rcases List.mem_append.mp hy with hy | hy
        · exact nm y hy
        · rw [List.mem_singleton.mp hy]
          exact nx
      have nd7 := nodup_snoc nd ox
      have l7 : (ns ++ [x]).length = i + 1 := by rw [List.length_append, ni]; rfl
      refine ⟨_, rfl, _, _, rfl, rfl, _, rfl, ite2 (fun c => ?_) (fun c => ?_)⟩
      · have i0 : 0 < i := by
          have z : (0 : Int) + (i : Int) > 0 := of_decide_eq_true c
          omega
        obtain ⟨tk, le⟩ : Tk2 ns ls ∧ ls.length + 1 = ns.length := by
          rcases alt with ⟨z, _⟩ | z
          · omega
          · exact z
        have at_ : ∀ j, j < ns.length → ((ns ++ [x]).map V.str)[j]? = some (.str (ns.getD j "")) := fun j hj => by
          rw [List.getElem?_map, List.getElem?_append_left hj, List.getElem?_eq_getElem hj]
          simp [List.getD, List.getElem?_eq_getElem hj]
        refine ⟨_, rfl, _, rfl, _, _, rfl, rfl, L, _, ((i - 1 : Nat) : Int), .str (ns.getD (i - 1) ""), rfl, congrArg V.int (by omega), SqL.of hL7, atI_nat (at_ (i - 1) (by omega)), _, rfl, L, _, 0, .str (ns.getD 0 ""), rfl, rfl, SqL.of hL7, atI_nat (j := 0) (at_ 0 (by omega)), _, rfl, _, rfl, _, rfl, r, _, rfl, R7, by omega, by omega, fun H8 e b8 R8 e0 e1 => ?_⟩
        obtain ⟨e, rfl⟩ := Int.eq_ofNat_of_zero_le e0
        have hL8 := b8 _ _ neL hL7
        have hM8 := b8 _ _ neM hM7
        have pr8 := prs_but R7 b8 pr7
        refine ⟨L, _, (e : Int), .str (ns.getD e ""), rfl, rfl, SqL.of hL8, atI_nat (at_ e (by omega)), (by show 3 ≤ sizeLine; decide), fun l9 n9 => ?_⟩
        have ne9 := R8.ne n9
        generalize hg : upd H8 l9 _ = H9
        obtain ⟨s9, g9⟩ := upd_new hg n9
        clear hg
        have R9 := R8.same s9
        refine ⟨_, rfl, r, 3, rfl, R9, by decide, by decide, fun H10 u b10 R10 u0 u1 => ?_⟩
        obtain ⟨v, hv, mv⟩ := at_inL (b10 _ _ ne9 g9) rfl u0 u1
        refine ⟨l9, _, u, v, rfl, rfl, SqL.of (b10 _ _ ne9 g9), hv, ?_⟩
        obtain ⟨pa, rfl, mp⟩ : ∃ pa, v = .str pa ∧ pa ∈ ns := by
          have g : ∀ j, j < ns.length → ns.getD j "" ∈ ns := fun j hj => by
            rw [List.getD_eq_getElem?_getD, List.getElem?_eq_getElem hj]
            exact List.getElem_mem hj
          simp only [List.mem_cons, List.not_mem_nil, or_false] at mv
          rcases mv with rfl | rfl | rfl
          · exact ⟨_, rfl, g _ (by omega)⟩
          · exact ⟨_, rfl, g _ (by omega)⟩
          · exact ⟨_, rfl, g _ (by omega)⟩
        have hL10 := b10 _ _ neL (s9 _ _ hL8)
        have hM10 := b10 _ _ neM (s9 _ _ hM8)
        have pr10 := prs_but R9 b10 (pr8.same s9)
        have b410 := ((b47.trans b8).trans (But.of s9)).trans b10
        have atx : ((ns ++ [x]).map V.str)[i]? = some (.str x) := by
          rw [List.getElem?_map, List.getElem?_append_right (by omega), ni, Nat.sub_self]
          rfl
        refine ⟨_, rfl, .inl ⟨rfl, _, SqL.of hM10⟩, _, rfl, _, rfl, L, _, (i : Int), .str x, rfl, (by dsimp only; rw [Int.zero_add]), SqL.of hL10, atI_nat atx, _, rfl, (by show 2 ≤ sizeLine; decide), fun t o nt st zt => ?_⟩
        generalize upd H10 t o = H11 at st zt ⊢
        have R11 := R10.same st
        have b411 := b410.trans (But.of st)
        have hM11 := st _ _ hM10
        refine ⟨M, _, _, rfl, rfl, hM11, (by rw [prs_len pr10]; exact small200 (by omega)), ?_⟩
        refine ⟨_, _, rfl, b411.upd nM0, R11.upd2 neM, ns ++ [x], us ++ [.ref t], ls ++ [(x, pa)], ?_, upd_same, prs_updL hM11 (prs_app (pr10.same st) (.cons ⟨t, rfl, zt⟩ .nil)), l7, nm7, nd7, .inr ⟨tk.grow mp ox, ?_⟩⟩
        · rw [upd_ne nLM]
          exact st _ _ hL10
        · rw [List.length_append, List.length_append, List.length_singleton, List.length_singleton, le]
      · have i0 : i = 0 := by
          have z : ¬ (0 : Int) + (i : Int) > 0 := fun z => c (decide_eq_true z)
          omega
        obtain rfl : ls = [] := by
          rcases alt with ⟨_, z⟩ | ⟨_, z⟩
          · exact z
          · omega
        obtain rfl : ns = [] := List.eq_nil_of_length_eq_zero (by omega)
        exact ⟨_, _, rfl, b47, R7, [x], us, [], hL7, hM7, pr7, l7, nm7, nd7, .inr ⟨Tk2.one x, rfl⟩⟩
    · rintro σ H4 ⟨a5, a6, rfl, b4, R4, ns, us, ls, hL, hM, pr, ni, nm, nd, alt⟩
      obtain ⟨tk, le⟩ : Tk2 ns ls ∧ ls.length + 1 = ns.length := by
        rcases alt with ⟨z, _⟩ | z
        · omega
        · exact z
      refine ⟨_, rfl, _, rfl, (by show 2 ≤ sizeLine; decide), fun t o nt st zt => ?_⟩
      exact q _ t L M ns us ls (b4.trans (But.of st)) (R4.same st) zt nL nM0 (st _ _ hL) (st _ _ hM) (pr.same st) tk nm (by omega) (by omega)
end
end My

namespace My
open PySem PySem.Spec PyProof.Rows L2 Gy Xl Xs Xt Xo Xp Xu Xd
/-! ### the neighbours of a host in the drawn tree -/
section
variable {P : Program} {w : World} {K : PySem.W.Frag} {mg : Str → Option Value} {base : Heap} {C CW : Addr} {H H1 H2 : Hp}
theorem nbr1_len (ls : List (Str × Str)) (x : Str) : ((ls.filter fun p => decide (p.1 = x)).map Prod.snd).length ≤ ls.length := by
  rw [List.length_map]
  exact List.length_filter_le _ _
theorem nbr2_len (ls : List (Str × Str)) (x : Str) : ((ls.filter fun p => decide (p.2 = x)).map Prod.fst).length ≤ ls.length := by
  rw [List.length_map]
  exact List.length_filter_le _ _
theorem nbr_len2 (ls : List (Str × Str)) (x : Str) : (nbr ls x).length ≤ ls.length + ls.length := by
  unfold nbr
  rw [List.length_append, List.length_map, List.length_map]
  exact Nat.add_le_add (List.length_filter_le _ _) (List.length_filter_le _ _)
theorem pr_same {us : List V} {ls : List (Str × Str)} (h : Xp.Prs H us ls) (s : Same H H1) : Xp.Prs H1 us ls := by
  induction h with
  | nil => exact .nil
  | cons h t ih =>
    obtain ⟨a, rfl, z⟩ := h
    exact .cons ⟨a, rfl, z.same s⟩ ih
theorem fil_take {α β : Type} {ls : List α} {i : Nat} {p : α} (q : α → Bool) (f : α → β) (h : ls[i]? = some p) : ((ls.take (i + 1)).filter q).map f = ((ls.take i).filter q).map f ++ ([p].filter q).map f := by
  rw [List.take_add_one, h, List.filter_append, List.map_append]
  rfl
def spNear (K : PySem.W.Frag) : Sp := fun vs H Q _ => ∃ (M : Addr) (x : Str) (us : List V) (ls : List (Str × Str)), vs = [.ref M, .str x] ∧ H M = some (.lst us) ∧ Xp.Prs H us ls ∧ ls.length ≤ 20 ∧ ∀ H' L, Same H H' → H L = none → H' L = some (.lst ((srt (nbr ls x)).map V.str)) → Q (.ref L) H'
theorem ok_near {f : Addr} {fd : FuncData} (F : Fun K "_law_near" "_law_near" s_law_near f fd) (Y : Bn mg) : FnOk P w K mg base CX0 1 f fd ["_law_pairs", "_law_host"] (spNear K) := by
  refine F.ok sc_law_near (fun vs H Q E h => ?_) (fun cdv A outer s H vs Q E hr h => ?_)
  · obtain ⟨M, x, us, ls, rfl, _⟩ := h
    rfl
  · obtain ⟨M, x, us, ls, rfl, eM, pr, l20, q⟩ := h
    have lu := Xp.Prs.length pr
    refine ⟨_, (pss_cons (ps_setLc (i := 2) (own := [("_law_one", 3), ("_law_other", 4)]) (g := gTup K 2 (gCons (gName 3) (gCons (gName 4) gNil))) (tt := (tTest (tOp rEq (tVar 3) (tVar 1)))) rfl sc_law_near.nd rfl rfl (sw_true rfl rfl rfl (by decide +kernel)) (pi_list (pv 0)) (blkOk_by (N := ["_law_pairs", "_law_host", "_law_found", "_law_one", "_law_other"]) (sc := defScope s_law_near) (by decide +kernel)) (fun _ _ _ _ _ => (pg_tup (by rfl) (pgs_cons (pg_name (i := 3) sc_law_near.nd rfl (Or.inl rfl)) (pgs_cons (pg_name (i := 4) sc_law_near.nd rfl (Or.inl rfl)) pgs_nil)))) (fun _ _ _ _ _ => (pts_one (pt_cmpR op_eq (pv 3) (pv 1) (nomark _)))) (fun _ _ _ _ _ => (pv 4)))
 (pss_one (ps_ret (pe_callB cr_sortedS (by rfl) Y.sorted (by decide +kernel) (pa_cons (pe_op op_cat (pv 2) (pe_lc (own := [("_law_one", 3), ("_law_other", 4)]) (g := gTup K 2 (gCons (gName 3) (gCons (gName 4) gNil))) (tt := (tTest (tOp rEq (tVar 4) (tVar 1)))) rfl sc_law_near.nd (pi_list (pv 0)) (blkOk_by (N := ["_law_pairs", "_law_host", "_law_found", "_law_one", "_law_other"]) (sc := defScope s_law_near) (by decide +kernel)) (fun _ _ _ _ _ => (pg_tup (by rfl) (pgs_cons (pg_name (i := 3) sc_law_near.nd rfl (Or.inl rfl)) (pgs_cons (pg_name (i := 4) sc_law_near.nd rfl (Or.inl rfl)) pgs_nil)))) (fun _ _ _ _ _ => (pts_one (pt_cmpR op_eq (pv 4) (pv 1) (nomark _)))) (fun _ _ _ _ _ => (pv 3)))) pa_nil))))), ?_⟩
    refine ⟨_, rfl, M, rfl, ⟨_, SqL.of eM⟩, fun D nD => ?_⟩
    refine lc_it (walk_list (K := K) (a := M) (xs := us)) (fun i H' => Same H H' ∧ H' D = some (.lst ((((ls.take i).filter fun p => decide (p.1 = x)).map Prod.snd).map V.str))) ⟨same_upd nD, upd_same⟩ (fun i H' _ h => SqL.of (h.1 _ _ eM)) ?_ ?_
    · rintro i y H3 H4 hi ⟨s3, hD⟩ ⟨rfl, hy⟩
      obtain ⟨p, hp, t, rfl, z⟩ := Xp.Prs.get (pr_same pr s3) hy
      have tk := fil_take (fun p => decide (p.1 = x)) Prod.snd hp
      refine ⟨t, _, rfl, z.sq, rfl, _, _, rfl, _, _, rfl, rfl, rfl, ?_⟩
      refine ⟨_, rfl, _, rfl, rfl, _, rfl, ite2 (fun c => ?_) (fun c => ?_)⟩
      · have e : p.1 = x := by
          have := of_decide_eq_true c
          injection this
        refine ⟨_, rfl, _, hD, ?_, same_upd2 s3 nD, ?_⟩
        · rw [List.length_map]
          have := nbr1_len (ls.take i) x
          rw [List.length_take] at this
          exact small200 (by omega)
        · rw [upd_same, tk, show [p].filter (fun p => decide (p.1 = x)) = [p] from List.filter_cons_of_pos (by exact decide_eq_true e), List.map_append]
          rfl
      · have e : ¬ p.1 = x := fun z => c (decide_eq_true (by rw [z]))
        refine ⟨s3, ?_⟩
        rw [hD, tk, show [p].filter (fun p => decide (p.1 = x)) = [] from List.filter_cons_of_neg (by rw [decide_eq_true_eq]; exact e)]
        simp
    · rintro H3 ⟨s3, hD⟩
      rw [lu, List.take_of_length_le (Nat.le_refl _)] at hD
      refine ⟨_, rfl, _, rfl, M, rfl, ⟨_, SqL.of (s3 _ _ eM)⟩, fun D2 nD2 => ?_⟩
      have nDD : D ≠ D2 := fun z => by rw [← z, hD] at nD2; cases nD2
      refine lc_it (walk_list (K := K) (a := M) (xs := us)) (fun i H' => Same H3 H' ∧ H' D2 = some (.lst ((((ls.take i).filter fun p => decide (p.2 = x)).map Prod.fst).map V.str))) ⟨same_upd nD2, upd_same⟩ (fun i H' _ h => SqL.of (h.1 _ _ (s3 _ _ eM))) ?_ ?_
      · rintro i y H5 H4 hi ⟨s5, hD5⟩ ⟨rfl, hy⟩
        obtain ⟨p, hp, t, rfl, z⟩ := Xp.Prs.get (pr_same (pr_same pr s3) s5) hy
        have tk := fil_take (fun p => decide (p.2 = x)) Prod.fst hp
        refine ⟨t, _, rfl, z.sq, rfl, _, _, rfl, _, _, rfl, rfl, rfl, ?_⟩
        refine ⟨_, rfl, _, rfl, rfl, _, rfl, ite2 (fun c => ?_) (fun c => ?_)⟩
        · have e : p.2 = x := by
            have := of_decide_eq_true c
            injection this
          refine ⟨_, rfl, _, hD5, ?_, same_upd2 s5 nD2, ?_⟩
          · rw [List.length_map]
            have := nbr2_len (ls.take i) x
            rw [List.length_take] at this
            exact small200 (by omega)
          · rw [upd_same, tk, show [p].filter (fun p => decide (p.2 = x)) = [p] from List.filter_cons_of_pos (by exact decide_eq_true e), List.map_append]
            rfl
        · have e : ¬ p.2 = x := fun z => c (decide_eq_true (by rw [z]))
          refine ⟨s5, ?_⟩
          rw [hD5, tk, show [p].filter (fun p => decide (p.2 = x)) = [] from List.filter_cons_of_neg (by rw [decide_eq_true_eq]; exact e)]
          simp
      · rintro H5 ⟨s5, hD5⟩
        rw [lu, List.take_of_length_le (Nat.le_refl _)] at hD5
        have l1 := nbr1_len ls x
        have l2 := nbr2_len ls x
        refine ⟨D, D2, _, _, rfl, rfl, s5 _ _ hD, hD5, ?_, fun L nL => ?_⟩
        · simp only [List.length_map] at l1 l2 ⊢
          rw [sizeLine_eq]
          omega
        have s6 := same_upd (o := .lst ((((ls.filter fun p => decide (p.1 = x)).map Prod.snd).map V.str) ++ (((ls.filter fun p => decide (p.2 = x)).map Prod.fst).map V.str))) nL
        have g6 : (upd H5 L (.lst ((((ls.filter fun p => decide (p.1 = x)).map Prod.snd).map V.str) ++ (((ls.filter fun p => decide (p.2 = x)).map Prod.fst).map V.str)))) L = some (.lst ((nbr ls x).map V.str)) := by
          rw [upd_same, ← List.map_append]
          rfl
        generalize upd H5 L _ = H6 at s6 g6 ⊢
        refine ⟨L, nbr ls x, rfl, SqL.of g6, ?_, fun ys L2 pm so nL2 => ?_⟩
        · exact Nat.lt_of_le_of_lt (nbr_len2 ls x) (by omega)
        obtain rfl := srt_of pm so
        exact q _ L2 (((s3.trans s5).trans s6).trans (same_upd nL2)) (same_no ((s3.trans s5).trans s6) nL2) upd_same
end
end My

namespace My
open PySem PySem.Spec PyProof.Rows L2 Gy Xl Xs Xt Xo Xp Xu Xd
/-! ### the first world -/
/-- a host is made, its log the default -/
structure MkH0 (P : Program) (w : World) (K : PySem.W.Frag) (mg : Str → Option Value) (base : Heap) (C : Addr) : Prop where
  gm : mg "Host" = some (.ref C)
  ex : ∃ (fI : Addr) (fd : FuncData) (g : List Value → List Value → List Value) (eT : Addr), Mk K C fI ∧ KBn K fd ["self", "name", "links", "log"] 2 ["links"] g (fun vs zs => vs ++ zs ++ [.ref eT]) ∧ (∀ H, SqT K H eT []) ∧ FnOk P w K mg base CX0 1 fI fd ["self", "name", "links", "log"] (spHInit K C)
def gs0 (r : Str) (ls : List (Str × Str)) : GS := ⟨r, ls, fun _ => [], fun _ => [], [], fun _ => []⟩
section
variable {P : Program} {w : World} {K : PySem.W.Frag} {mg : Str → Option Value} {base : Heap} {C CW : Addr} {H H1 H2 : Hp} {τ τ1 : Tg} {W : WA} {hs : List Str} {ks : List (Str × Str)} {fl : Str × Str → List PyData} {sh sm : Str → HS}
theorem fl_gs0 {r : Str} {ls : List (Str × Str)} (g : Gr r ls) : Fl (gs0 r ls) := by
  refine ⟨g, fun _ _ _ => rfl, fun _ _ _ => rfl, fun _ => List.nodup_nil, (fun _ _ h => nomatch h), (fun _ h => nomatch h), List.nodup_nil, fun u l1 m l2 e => ?_⟩
  have e : ([] : List Msg) = l1 ++ m :: l2 := e
  cases l1 <;> cases e
theorem if_self {α : Type} {f : Str → α} {x : Str} : (fun y => if y = x then f x else f y) = f := by
  funext y
  by_cases e : y = x
  · rw [if_pos e, e]
  · rw [if_neg e]
theorem upd2_no {H : Hp} {a h dx : Addr} {o1 o2 : HO} (e : (upd (upd H dx o1) h o2) a = none) : H a = none := by
  by_cases c : a = h
  · rw [c, upd_same] at e
    cases e
  · rw [upd_ne c] at e
    by_cases d : a = dx
    · rw [d, upd_same] at e
      cases e
    · rwa [upd_ne d] at e
theorem nd_srt {ys xs : List Str} (so : sortedS ys = true) (nd : ys.Nodup) (nx : xs.Nodup) (mem : ∀ x, x ∈ ys ↔ x ∈ xs) : ys = srt xs := srt_of ((List.perm_ext_iff_of_nodup nd nx).mpr mem) so
def spWorld (K : PySem.W.Frag) (C : Addr) : Sp := fun vs H Q _ => ∃ (L M : Addr) (r : Str) (ls : List (Str × Str)) (us : List V) (τ : Tg), vs = [.ref L, .ref M] ∧ H L = some (.lst ((hsT r ls).map V.str)) ∧ H M = some (.lst us) ∧ Xp.Prs H us ls ∧ Gr r ls ∧ (∀ x ∈ hsT r ls, Nm x) ∧ (hsT r ls).length ≤ 11 ∧ (∀ a, τ a ≠ none → H a ≠ none) ∧ (∀ a u, τ a = some u → ¬ Td u) ∧
  ∀ H' W ks τ', Kt (fun _ => False) τ τ' H H' → Sim K C H' τ' W ks (gs0 r ls) → Q (.ref W.D) H'
theorem Kt.under {t : Tag → Prop} {τ' τ6 : Tg} {HB He : Hp} (a : Kt (fun _ => False) τ τ6 H HB) (b : Kt t τ6 τ' HB He) (n : ∀ a u, τ a = some u → ¬ t u) : Kt (fun _ => False) τ τ' H He := by
  refine ⟨fun y o e _ => b.st y o (a.st y o e fun _ _ z => z) fun u eu => ?_, fun y m => ?_, fun y e => a.dm y (b.dm y e), a.fk.trans b.fk, fun k => b.tk (a.tk k)⟩
  · rw [a.tg y (by rw [e]; exact fun z => nomatch z)] at eu
    exact n y u eu
  · rw [b.tg y (fun z => m (a.dm y z)), a.tg y m]
theorem host_made {H Hh : Hp} {h dx : Addr} (nh : H h = none) (nd : H dx = none) (ne : dx ≠ h) (off : Off h (upd (upd H dx (.own h)) h (.ins C dx [])) Hh) : Same H Hh := fun b o e => off _ _ (by
  rw [upd_ne (ne_of_none e nh), upd_ne (ne_of_none e nd)]
  exact e) (ne_of_none e nh)
theorem ok_world {f : Addr} {fd : FuncData} (F : Fun K "_law_world" "_law_world" s_law_world f fd) (Y : Bn mg) (T : Ch K C) (MI : MkH0 P w K mg base C) (G_law_near : Fk P w K mg base CX0 1 "_law_near" ["_law_pairs", "_law_host"] (spNear K)) (G_law_new : Fk P w K mg base CX0 1 "_law_new" ["_law_name_here", "_law_linked_here", "_law_logged"] (spNew K)) :
    FnOk P w K mg base CX0 3 f fd ["_law_hosts", "_law_pairs"] (spWorld K C) := by
  obtain ⟨fI, fdI, gI, eT, MMk, KBI, dT, FI⟩ := MI.ex
  have gT := MI.gm
  refine F.ok sc_law_world (fun vs H Q E h => ?_) (fun cdv A outer s H vs Q E hr h => ?_)
  · obtain ⟨L, M, r, ls, us, τ, rfl, _⟩ := h
    rfl
  · obtain ⟨L, M, r, ls, us, τ, rfl, eL, eM, pr, gr, nm, h11, tk, tn, q⟩ := h
    have hu1 := hu_of hr
    refine ⟨_, (pss_cons (ps_set (i := 2) sc_law_world.nd rfl (.inl rfl) (pe_disp (pps_cons pe_str pe_dnewK (pps_cons pe_str pe_dnewK (pps_cons pe_str pe_dnewT pps_nil))) (by rfl) (by rfl) (fun z => by cases z) (by decide)))
 (pss_cons (ps_for PassesOwn.never rfl (pi_list (pv 0)) (pg_name (i := 3) sc_law_world.nd rfl (Or.inl rfl))
 (pss_cons (ps_set (i := 4) sc_law_world.nd rfl (.inl rfl) (pe_callF G_law_near (hr.mono (by decide)) (by rfl) pass0 (pa_cons (pv 1) (pa_cons (pv 3) pa_nil))))
 (pss_cons (ps_dput hu1 (pe_dget hu1 (pv 2) pe_str (fun _ _ => rfl)) (pv 3) (pe_makeK (E := fun _ _ _ => False) (n := 1) MMk FI (hr.mono (by decide)) (by rfl) gT KBI pass0 (pa_cons (pv 3) pa_nil) (pk_cons (pe_revL (pv 4)) pk_nil)) rfl)
 (pss_one (ps_dput hu1 (pe_dget hu1 (pv 2) pe_str (fun _ _ => rfl)) (pv 3) (pe_callF G_law_new (hr.mono (by decide)) (by rfl) pass0 (pa_cons (pv 3) (pa_cons (pv 4) (pa_cons (pe_lst pa_nil) pa_nil)))) rfl)))))
 (pss_one (ps_ret (pv 2))))), ?_⟩
    intro D nD
    have s1 := same_upd (o := .dK []) nD
    have g1 : (upd H D (.dK [])) D = some (.dK []) := upd_same
    generalize upd H D (.dK []) = H1 at s1 g1 ⊢
    have k1 : Kt (fun _ => False) τ (give τ H .dw [D]) H H1 := Kt.give s1 (fun a ha => by rw [List.mem_singleton.mp ha, g1]; exact fun z => nomatch z)
    have t1 : give τ H .dw [D] D = some .dw := give_new nD (by simp)
    generalize give τ H .dw [D] = τ1 at k1 t1
    intro hD nhD
    have s2 := same_upd (o := .dK []) nhD
    have h2 : (upd H1 hD (.dK [])) hD = some (.dK []) := upd_same
    have g2 := s2 _ _ g1
    generalize upd H1 hD (.dK []) = H2 at s2 g2 h2 ⊢
    have k2 : Kt (fun _ => False) τ1 (give τ1 H1 .dh [hD]) H1 H2 := Kt.give s2 (fun a ha => by rw [List.mem_singleton.mp ha, h2]; exact fun z => nomatch z)
    have t2h : give τ1 H1 .dh [hD] hD = some .dh := give_new nhD (by simp)
    have t2 : give τ1 H1 .dh [hD] D = some .dw := (give_old (by rw [g1]; exact fun z => nomatch z)).trans t1
    generalize give τ1 H1 .dh [hD] = τ2 at k2 t2 t2h
    intro mD nmD
    have s3 := same_upd (o := .dK []) nmD
    have m3 : (upd H2 mD (.dK [])) mD = some (.dK []) := upd_same
    have g3 := s3 _ _ g2
    have h3 := s3 _ _ h2
    generalize upd H2 mD (.dK []) = H3 at s3 g3 h3 m3 ⊢
    have k3 : Kt (fun _ => False) τ2 (give τ2 H2 .dm [mD]) H2 H3 := Kt.give s3 (fun a ha => by rw [List.mem_singleton.mp ha, m3]; exact fun z => nomatch z)
    have t3m : give τ2 H2 .dm [mD] mD = some .dm := give_new nmD (by simp)
    have t3 : give τ2 H2 .dm [mD] D = some .dw := (give_old (by rw [g2]; exact fun z => nomatch z)).trans t2
    have t3h : give τ2 H2 .dm [mD] hD = some .dh := (give_old (by rw [h2]; exact fun z => nomatch z)).trans t2h
    generalize give τ2 H2 .dm [mD] = τ3 at k3 t3 t3h t3m
    intro fD nfD
    have s4 := same_upd (o := .dT []) nfD
    have f4 : (upd H3 fD (.dT [])) fD = some (.dT []) := upd_same
    have g4 := s4 _ _ g3
    have h4 := s4 _ _ h3
    have m4 := s4 _ _ m3
    generalize upd H3 fD (.dT []) = H4 at s4 g4 h4 m4 f4 ⊢
    have k4 : Kt (fun _ => False) τ3 (give τ3 H3 .df [fD]) H3 H4 := Kt.give s4 (fun a ha => by rw [List.mem_singleton.mp ha, f4]; exact fun z => nomatch z)
    have t4f : give τ3 H3 .df [fD] fD = some .df := give_new nfD (by simp)
    have t4 : give τ3 H3 .df [fD] D = some .dw := (give_old (by rw [g3]; exact fun z => nomatch z)).trans t3
    have t4h : give τ3 H3 .df [fD] hD = some .dh := (give_old (by rw [h3]; exact fun z => nomatch z)).trans t3h
    have t4m : give τ3 H3 .df [fD] mD = some .dm := (give_old (by rw [m3]; exact fun z => nomatch z)).trans t3m
    generalize give τ3 H3 .df [fD] = τ4 at k4 t4 t4h t4m t4f
    have k04 := ((k1.trans k2).trans k3).trans k4
    have ned : ∀ {a : Addr} {u : Tag}, τ4 a = some u → u ≠ .dw → a ≠ D := fun {a u} e n z => by
      rw [z, t4] at e
      injection e with e
      exact n e.symm
    refine ⟨g4, [(.inr "hosts", .ref hD), (.inr "models", .ref mD), (.inr "flight", .ref fD)], rfl, (by show 3 ≤ 15; decide), ?_⟩
    rw [show mergeK [] ([(.inr "hosts", .ref hD), (.inr "models", .ref mD), (.inr "flight", .ref fD)] : List (L2.Key × V)) = [(.inr "hosts", .ref hD), (.inr "models", .ref mD), (.inr "flight", .ref fD)] from rfl]
    have k5 := k04.updT (a := D) (o := .dK [(.inr "hosts", .ref hD), (.inr "models", .ref mD), (.inr "flight", .ref fD)]) fun o e => by rw [nD] at e; cases e
    have w5 : Wd K C (upd H4 D (.dK [(.inr "hosts", .ref hD), (.inr "models", .ref mD), (.inr "flight", .ref fD)])) τ4 ⟨D, hD, mD, fD, fun _ => 0, fun _ => 0, fun _ => 0⟩ [] [] (fun _ => []) (stOf (gs0 r ls)) (stOf (gs0 r ls)) :=
      ⟨upd_same, (upd_ne (ned t4h (by simp))).trans h4, (upd_ne (ned t4m (by simp))).trans m4, (upd_ne (ned t4f (by simp))).trans f4, t4, t4h, t4m, t4f, List.nodup_nil, List.nodup_nil, (fun _ z => nomatch z), (fun _ z => nomatch z), (fun _ z => nomatch z), (fun _ _ => rfl), k5.tk tk⟩
    generalize upd H4 D _ = H5 at k5 w5 ⊢
    have nd := gr.nd
    refine ⟨_, rfl, L, rfl, ⟨_, SqL.of (k5.st _ _ eL fun _ _ z => z)⟩, ?_⟩
    refine for_it (walk_list (K := K) (a := L) (xs := (hsT r ls).map V.str)) (fun i σ H' => ∃ (a3 a4 : Option V) (τ' : Tg) (W : WA), W.D = D ∧ σ = [some (.ref L), some (.ref M), some (.ref D), a3, a4] ∧ Kt (fun _ => False) τ τ' H H' ∧ Wd K C H' τ' W ((hsT r ls).take i) [] (fun _ => []) (stOf (gs0 r ls)) (stOf (gs0 r ls)))
      ⟨none, none, τ4, _, rfl, rfl, k5, w5⟩ (fun i σ H' _ hP => by obtain ⟨_, _, _, _, _, _, k, _⟩ := hP; exact SqL.of (k.st _ _ eL fun _ _ z => z)) ?_ ?_
    · rintro i y σ HA HB hi ⟨a3, a4, τ6, W, rfl, rfl, k6, w6⟩ ⟨rfl, hy⟩
      rw [List.getElem?_map] at hy
      obtain ⟨x, hx, rfl⟩ := Option.map_eq_some_iff.mp hy
      have il : i < (hsT r ls).length := (List.getElem?_eq_some_iff.mp hx).1
      have tkx : (hsT r ls).take (i + 1) = (hsT r ls).take i ++ [x] := by rw [List.take_add_one, hx]; rfl
      have nx : x ∉ (hsT r ls).take i := fun z => by
        have nd2 := nd
        rw [← List.take_append_drop (i + 1) (hsT r ls), tkx] at nd2
        exact (List.nodup_append.mp (List.nodup_append.mp nd2).1).2.2 x z x (List.mem_singleton.mpr rfl) rfl
      have lsl : ls.length ≤ 20 := by
        have : (hsT r ls).length = ls.length + 1 := by unfold hsT; rw [List.length_cons, List.length_map]
        omega
      have eM6 := k6.st _ _ eM fun _ _ z => z
      have pr6 : Xp.Prs HB us ls := pr_same pr (fun a o e => k6.st a o e fun _ _ z => z)
      refine ⟨_, rfl, _, rfl, M, x, us, ls, rfl, eM6, pr6, lsl, fun H7 Ln s7 nLn eLn => ?_⟩
      have w7 := w6.same s7
      have nbl := nbr_le gr x
      have gh7 := w7.gH
      refine ⟨_, rfl, _, rfl, Ln, _, rfl, SqL.of eLn, fun Lr nLr => ?_⟩
      have s8 := same_upd (o := .lst ((srt (nbr ls x)).map V.str).reverse) nLr
      have e8 : (upd H7 Lr (.lst ((srt (nbr ls x)).map V.str).reverse)) Lr = some (.lst (((srt (nbr ls x)).reverse).map V.str)) := by rw [upd_same, List.map_reverse]
      have eLn8 := s8 _ _ eLn
      generalize upd H7 Lr _ = H8 at s8 e8 eLn8 ⊢
      have w8 := w7.same s8
      refine ⟨rfl, rfl, fun h dx nh ndx ne => ?_⟩
      have sR : Same H8 (upd (upd H8 dx (.own h)) h (.ins C dx [])) := fun b o e => by
        rw [upd_ne (ne_of_none e nh), upd_ne (ne_of_none e ndx)]
        exact e
      refine ⟨h, Lr, eT, dx, x, (srt (nbr ls x)).reverse, [], [], rfl, upd_same, .inl (SqL.of (sR _ _ e8)), ?_, .inr (dT _), .nil, fun Hh ad ys off fk hx2 so nd2 mem n1 n2 n3 n4 => ⟨rfl, ?_⟩⟩
      · rw [List.length_reverse, srt_len]
        omega
      have sh' := host_made nh ndx ne off
      have eys : ys = srt (nbr ls x) := nd_srt so nd2 (nbr_nd gr x) fun y => by rw [mem, List.mem_reverse, srt_mem]
      have w9 := w8.same sh'
      refine ⟨_, rfl, W.D, _, rfl, w9.gH, _, rfl, W.hD, _, rfl, DPut.k (k := .inr x) w9.h (by rw [nkv_len, List.length_take]; exact small200 (by omega)), ?_⟩
      rw [eys] at hx2
      have eLn9 := sh' _ _ eLn8
      have nLnh : Ln ≠ W.hD := fun z => by rw [z, w9.h] at eLn9; cases eLn9
      have eLnc : (upd Hh W.hD (.dK (putK (nkv ((hsT r ls).take i) W.ha) (.inr x) (.ref h)))) Ln = some (.lst ((srt (nbr ls x)).map V.str)) := (upd_ne nLnh).trans eLn9
      have nDh : W.D ≠ W.hD := fun z => by
        have := w9.td
        rw [z, w9.th] at this
        cases this
      have nmh : W.mD ≠ W.hD := fun z => by
        have := w9.tm
        rw [z, w9.th] at this
        cases this
      refine ⟨_, rfl, _, rfl, Nat.zero_le _, fun l nl => ?_⟩
      have s10 := same_upd (o := .lst []) nl
      have e10 : (upd (upd Hh W.hD (.dK (putK (nkv ((hsT r ls).take i) W.ha) (.inr x) (.ref h)))) l (.lst [])) l = some (.lst []) := upd_same
      have eD : (upd Hh W.hD (.dK (putK (nkv ((hsT r ls).take i) W.ha) (.inr x) (.ref h)))) W.D = some (.dK (wkv W)) := (upd_ne nDh).trans w9.d
      have eMm : (upd Hh W.hD (.dK (putK (nkv ((hsT r ls).take i) W.ha) (.inr x) (.ref h)))) W.mD = some (.dK (nkv ((hsT r ls).take i) W.ma)) := (upd_ne nmh).trans w9.m
      refine ⟨Ln, l, x, srt (nbr ls x), [], [], rfl, SqL.of (s10 _ _ eLnc), ?_, SqL.of e10, Nat.zero_le _, .nil, fun Hm m am s11 nm2 mx q1 q2 q3 q4 => ?_⟩
      · rw [srt_len]
        omega
      rw [srt_srt] at mx
      have s1011 := s10.trans s11
      have eD2 := s1011 _ _ eD
      have eM2 := s1011 _ _ eMm
      have k77 : Same HB Hh := (s7.trans s8).trans sh'
      obtain ⟨τ', kk, wf⟩ := w6.grow nx k77 (st := stOf (gs0 r ls) x) (st2 := stOf (gs0 r ls) x) hx2 (fun a ha => by
        simp only [List.mem_cons, List.not_mem_nil, or_false] at ha
        rcases ha with rfl | rfl | rfl | rfl | rfl
        · exact same_no (s7.trans s8) nh
        · exact same_no (s7.trans s8) (upd2_no n1)
        · exact same_no (s7.trans s8) (upd2_no n2)
        · exact same_no (s7.trans s8) (upd2_no n3)
        · exact same_no (s7.trans s8) (upd2_no n4)) s1011 mx (fun a ha => by
        simp only [List.mem_cons, List.not_mem_nil, or_false] at ha
        rcases ha with rfl | rfl | rfl | rfl | rfl
        · exact same_no s10 nm2
        · exact same_no s10 q1
        · exact same_no s10 q2
        · exact same_no s10 q3
        · exact same_no s10 q4)
      refine ⟨_, rfl, W.D, _, rfl, DGet.k (k := .inr "models") eD2, _, rfl, W.mD, _, rfl, DPut.k (k := .inr x) eM2 (by rw [nkv_len, List.length_take]; exact small200 (by omega)), ?_⟩
      refine ⟨_, _, τ', growA W x h m, rfl, rfl, ?_, ?_⟩
      · exact k6.under kk tn
      · rw [tkx]
        rw [if_self] at wf
        exact wf
    · rintro σ H' ⟨a3, a4, τ6, W, rfl, rfl, k6, w6⟩
      rw [List.length_map, List.take_length] at w6
      exact ⟨_, rfl, q _ W [] τ6 k6 ⟨w6, ⟨fl_gs0 gr, nm, h11, Nat.zero_le _, (fun _ z => nomatch z)⟩, (fun _ z => nomatch z)⟩⟩
end
end My

namespace My
open PySem PySem.Spec PyProof.Rows L2 Gy Xl Xs Xt Xo Xp Xu Xd
/-! ### a host writes, and its past is noted -/
section
variable {P : Program} {w : World} {K : PySem.W.Frag} {mg : Str → Option Value} {base : Heap} {C CW : Addr} {H H1 H2 : Hp} {t : Tag → Prop} {τ τ1 : Tg} {W : WA} {hs : List Str} {ks ks' : List (Str × Str)} {fl fl' : Str × Str → List PyData} {sh sm : Str → HS} {h m : Addr} {x : Str} {st st' : HS} {g : GS}
def spWr (K : PySem.W.Frag) (C : Addr) : Sp := fun vs H Q _ => ∃ (τ : Tg) (W : WA) (ks : List (Str × Str)) (g : GS) (u x : Str), vs = [.ref W.D, .str u, .str x] ∧ Sim K C H τ W ks g ∧ u ∈ g.hs ∧ (u, x) ∉ g.ws ∧ g.ws.length < 12 ∧ isWord (.str x) = true ∧ A0 (.str x) ∧
  ∀ H' fa ks' τ', Kt Tw τ τ' H H' → Sim K C H' τ' (Tch W fa) ks' (g.wrote u (u, x)) → Q (.bl true) H'
theorem ok_wr {f : Addr} {fd : FuncData} (F : Fun K "_law_wrote" "_law_wrote" s_law_wrote f fd) (Y : Bn mg) (T : Ch K C) (M_write : Fm P w K mg base (L2.CX P w) 10 C "write" ["self", "word"] (spWrite K C CW)) (G_law_spread : Fk P w K mg base CX0 2 "_law_spread" ["_law_model", "_law_message", "_law_source", "_law_bit_here"] (spSprM K))
    (G_law_acted : Fg P w K mg base CX0 4 "_law_acted" ["_law_world_here", "_law_name_here", "_law_told", "_law_due"] (spActed K C)) : FnG P w K mg base CX0 12 f fd ["_law_world_here", "_law_name_here", "_law_word"] (spWr K C) := by
  obtain ⟨_, _, MM_write, MB_write, MF_write⟩ := M_write.ex
  refine fun_g0 F sc_law_wrote (fun {vs H Q E} h => ?_) (fun cdv A outer s H vs Q E gd hr h => ?_)
  · obtain ⟨τ, W, ks, g, u, x, rfl, _⟩ := h
    rfl
  · obtain ⟨τ, W, ks, g, u, x, rfl, sim, hu, hm, wl, w1, w2, q⟩ := h
    have hu1 := hu_of hr
    refine ⟨_, (pss_cons (ps_set (i := 3) sc_law_wrote.nd rfl (.inl rfl) (pe_meth (E := fun _ _ _ => False) (pe_dget hu1 (pe_dget hu1 (pv 0) pe_str (fun _ _ => rfl)) (pv 1) (fun _ _ => rfl)) T.cl MM_write MF_write (hr.mono (by decide)) MB_write .nil passN (pa_cons (pv 2) pa_nil)))
 (pss_one (ps_ret (pe_callFg (E := E0) G_law_acted gd (hr.mono (by decide)) (by rfl) pass0 (pa_cons (pv 0) (pa_cons (pv 1) (pa_cons (pv 3) (pa_cons (pe_callF G_law_spread (hr.mono (by decide)) (by rfl) pass0 (pa_cons (pe_dget hu1 (pe_dget hu1 (pv 0) pe_str (fun _ _ => rfl)) (pv 1) (fun _ _ => rfl)) (pa_cons (pe_tupZ (pa_cons (pv 1) (pa_cons (pv 2) pa_nil))) (pa_cons pe_non (pa_cons pe_int pa_nil))))) pa_nil)))))))), ?_⟩
    have sw := sim.w
    have fr := sim.s.free hu
    have nu := sim.s.nm u hu
    obtain ⟨ad, hw⟩ := sw.hw u hu
    refine ⟨_, rfl, W.D, _, rfl, sw.gH, _, rfl, W.hD, _, rfl, sw.gh hu, W.ha u, ad.dx, _, rfl, hw.hs.at_, (by rfl), _, rfl, W.ha u, .str x, stOf g u, ad, rfl, .str x (le200 (by have := word_l20 w2; omega)), hw.hs, fr.lk, fr.srt, fr.lg, fr.jok, fr.nn, fun z => absurd (w1.symm.trans z) (by decide), fun x' ex _ H2 L ul fr2 hx2 nL eL dL => ?_⟩
    cases ex
    obtain ⟨k2, hw2⟩ := hw.act0 (ac_log (w := u) (x := x) hw.hs fr2 hx2)
    have w2' := sw.stepH k2 ⟨ad, hw2⟩
    have tL : τ L = none := sw.new nL
    refine ⟨_, rfl, _, rfl, _, rfl, _, rfl, W.D, _, rfl, w2'.gM, _, rfl, W.mD, _, rfl, w2'.gm hu, _, rfl, _, rfl, (by show 2 ≤ sizeLine; decide), fun ta o3 n3 s3 z3 => ?_⟩
    generalize upd H2 ta o3 = H3 at s3 z3 ⊢
    have w3 := w2'.same s3
    have eL3 := s3 _ _ eL
    have dL3 := dL.same (fz_keep (FzK.of s3))
    obtain ⟨am, mm⟩ := w3.mw u hu
    refine ⟨W.ma u, ta, none, u, x, .int 0, stOf g u, am, rfl, mm.hs, fr, z3, fun H4 L2 ul2 am2 nL2 eL2 dL2 => ?_⟩
    obtain ⟨k4, mm4⟩ := mm.act0 am2
    have w4 := w3.stepM k4 ⟨am, mm4⟩
    have tL2 : τ L2 = none := w3.new nL2
    have eL4 := (k4.no_ eL3 tL).1
    have dL4 := dL3.same (fz_keep k4.fk)
    rw [show ((outs (stOf g u) none 0).map (sendD (stOf g u).nm x)) = toP (outG g u none (u, x)) from by rw [outs_free rfl]; exact spread_out u none (u, x)] at dL4
    rw [show spread (stOf g u) none u x = toP (outG g u none (u, x)) from spread_out u none (u, x)] at dL2
    have ks1 : ks.length ≤ 121 := sim.kl
    have sm' := sim.s.wrote hu hm rfl wl w1 w2
    refine ⟨τ, W, g.hs, ks, flOf g, (fun y => if y = u then logged (stOf g u) u x else stOf g y), (fun y => if y = u then logged (stOf g u) u x else stOf g y), u, L, L2, ul, ul2, outG g u none (u, x), rfl, w4, hu, rfl, ?_, ?_, eL4, tL, dL4, eL2, tL2, dL2, out_fits sim.s nu w2, fun q hq => outG_mem sim.s hq, Nat.le_trans (outG_len sim.s u _ _) (by decide), by omega, fun k => ?_, fun H5 τ5 fa k5 w5 => ?_⟩
    · rw [stOf_wrote (m := (u, x))]
      rfl
    · rw [stOf_wrote (m := (u, x))]
      exact sm'.fits hu
    · have := sim.s.fll k
      show ((g.fl k).map itM).length ≤ 400
      rw [List.length_map]
      omega
    · rw [stOf_wrote (m := (u, x)), flOf_wrote sim.s] at w5
      have kk : Kt Tw τ τ5 H H5 := (((k2.mono fun _ z => .inr (.inl ⟨u, z⟩)).trans (Kt.same s3)).trans (k4.mono fun _ z => .inr (.inr ⟨u, z⟩))).trans (k5.mono fun _ z => .inl z)
      exact q H5 fa _ τ5 kk ⟨w5, sm', KsIn.post hu sim.k fun q hq => outG_mem sim.s hq⟩
end
end My

namespace My
open PySem PySem.Spec PyProof.Rows L2 Gy Xl Xs Xt Xo Xp Xu Xd
/-! ### what a writer had logged -/
structure Pst (K : PySem.W.Frag) (H : Hp) (τ : Tg) (PD : Addr) (pa : Msg → Addr) (ws : List Msg) (past : Msg → List Msg) : Prop where
  d : H PD = some (.dT (ckv ws pa))
  td : τ PD = some .pd
  p : ∀ m ∈ ws, τ (pa m) = some (.pl m) ∧ ∃ us, H (pa m) = some (.lst us) ∧ Dns K (fz H) us ((past m).map logM)
  l : ∀ m ∈ ws, (past m).length ≤ 12
def To (t : Tag) : Prop := Tw t ∨ t = .pd ∨ ∃ m, t = .pl m
theorem not_tw {u : Tag} (h1 : u ≠ .df) (h2 : ∀ k, u ≠ .ch k) (h3 : ∀ x, u ≠ .ho x) (h4 : ∀ x, u ≠ .mo x) : ¬ Tw u := fun z => by
  rcases z with (z | ⟨k, z⟩) | ⟨x, z⟩ | ⟨x, z⟩
  · exact h1 z
  · exact h2 k z
  · exact h3 x z
  · exact h4 x z
section
variable {P : Program} {w : World} {K : PySem.W.Frag} {mg : Str → Option Value} {base : Heap} {C CW : Addr} {H H1 H2 : Hp} {t : Tag → Prop} {τ τ1 : Tg} {W : WA} {hs : List Str} {ks ks' : List (Str × Str)} {fl fl' : Str × Str → List PyData} {sh sm : Str → HS} {h m : Addr} {x : Str} {st st' : HS} {g : GS} {PD : Addr} {pa : Msg → Addr} {ws : List Msg} {past : Msg → List Msg}
theorem Pst.keep (p : Pst K H τ PD pa ws past) (k : Kt t τ τ1 H H1) (n1 : ¬ t .pd) (n2 : ∀ m, ¬ t (.pl m)) : Pst K H1 τ1 PD pa ws past :=
  ⟨(k.at_ p.d p.td n1).1, (k.at_ p.d p.td n1).2, fun m hm => by
    obtain ⟨a, us, b, c⟩ := p.p m hm
    have z := k.at_ b a (n2 m)
    exact ⟨z.2, us, z.1, c.same (fz_keep k.fk)⟩, p.l⟩
theorem Pst.tw (p : Pst K H τ PD pa ws past) (k : Kt Tw τ τ1 H H1) : Pst K H1 τ1 PD pa ws past := p.keep k (not_tw (by simp) (by simp) (by simp) (by simp)) fun _ => not_tw (by simp) (by simp) (by simp) (by simp)
/-- a past is noted -/
theorem Pst.note {mm : Msg} {L : Addr} {us : List V} {l : List Msg} (p : Pst K H τ PD pa ws past) (n : mm ∉ ws) (s : Same H H1) (nL : H L = none) (eL : H1 L = some (.lst us)) (du : Dns K (fz H1) us (l.map logM)) (l12 : l.length ≤ 12) :
    Kt (· = .pd) τ (give τ H (.pl mm) [L]) H (upd H1 PD (.dT (putK (ckv ws pa) (kq mm) (.ref L)))) ∧ Pst K (upd H1 PD (.dT (putK (ckv ws pa) (kq mm) (.ref L)))) (give τ H (.pl mm) [L]) PD (fun j => if j = mm then L else pa j) (ws ++ [mm]) (fun j => if j = mm then l else past j) := by
  have k0 : Kt (· = .pd) τ (give τ H (.pl mm) [L]) H H1 := by
    have q := Kt.same (t := (· = .pd)) (τ := τ) s
    refine ⟨q.st, fun a n => give_old n, q.dm, q.fk, fun z => give_tk q.dm (fun a ha => ?_) z⟩
    rw [List.mem_singleton] at ha
    rw [ha, eL]
    exact fun z => nomatch z
  have k1 := k0.updT (a := PD) (o := .dT (putK (ckv ws pa) (kq mm) (.ref L))) fun o e => ⟨⟨_, p.td, rfl⟩, fun _ _ z => by rw [p.d] at e; injection e with e; rw [← e] at z; cases z⟩
  have ne : L ≠ PD := fun z => by rw [z, p.d] at nL; cases nL
  have fk1 : FzK H1 (upd H1 PD (.dT (putK (ckv ws pa) (kq mm) (.ref L)))) := (FzK.refl H1).upd (s _ _ p.d) (fun _ _ z => nomatch z)
  refine ⟨k1, ?_, ?_, fun j hj => ?_, fun j hj => ?_⟩
  · rw [upd_same, ckv_snoc n]
  · rw [give_old (by rw [p.d]; exact fun z => nomatch z)]
    exact p.td
  · by_cases e : j = mm
    · rw [e, if_pos rfl, if_pos rfl]
      refine ⟨give_new nL (List.mem_singleton.mpr rfl), us, (upd_ne ne).trans eL, du.same (fz_keep fk1)⟩
    · rw [if_neg e, if_neg e]
      have hj' : j ∈ ws := by
        rcases List.mem_append.mp hj with z | z
        · exact z
        · exact absurd (List.mem_singleton.mp z) e
      obtain ⟨a', us', b', c'⟩ := p.p j hj'
      refine ⟨?_, us', ?_, (c'.same (fz_keep (FzK.of s))).same (fz_keep fk1)⟩
      · rw [give_old (by rw [b']; exact fun z => nomatch z)]
        exact a'
      · rw [upd_ne fun z => ?_]
        · exact s _ _ b'
        · rw [z, p.d] at b'
          cases b'
  · by_cases e : j = mm
    · rw [if_pos e]
      exact l12
    · rw [if_neg e]
      rcases List.mem_append.mp hj with z | z
      · exact p.l j z
      · exact absurd (List.mem_singleton.mp z) e
theorem Sim.pd (z : Sim K C H τ W ks g) (k : Kt (· = .pd) τ τ1 H H1) : Sim K C H1 τ1 W ks g := ⟨z.w.keep k (by simp) (by simp) (by simp) (by simp), z.s, z.k⟩
theorem Sim.same (z : Sim K C H τ W ks g) (s : Same H H1) : Sim K C H1 τ W ks g := ⟨z.w.same s, z.s, z.k⟩
def spNt (K : PySem.W.Frag) (C : Addr) : Sp := fun vs H Q _ => ∃ (τ : Tg) (W : WA) (ks : List (Str × Str)) (g : GS) (u x : Str) (PD : Addr) (pa : Msg → Addr), vs = [.ref W.D, .ref PD, .str u, .str x] ∧ Sim K C H τ W ks g ∧ Pst K H τ PD pa g.ws g.past ∧ u ∈ g.hs ∧ (u, x) ∉ g.ws ∧ g.ws.length < 12 ∧ isWord (.str x) = true ∧ A0 (.str x) ∧
  ∀ H' fa ks' τ' pa', Kt To τ τ' H H' → Sim K C H' τ' (Tch W fa) ks' (g.wrote u (u, x)) → Pst K H' τ' PD pa' (g.wrote u (u, x)).ws (g.wrote u (u, x)).past → Q (.bl true) H'
theorem ok_nt {f : Addr} {fd : FuncData} (F : Fun K "_law_noted" "_law_noted" s_law_noted f fd) (Y : Bn mg) (T : Ch K C) (M_log : Fm P w K mg base CX0 1 C "log" ["self"] (spLst K C fun st => st.lg)) (G_law_wrote : Fg P w K mg base CX0 12 "_law_wrote" ["_law_world_here", "_law_name_here", "_law_word"] (spWr K C)) :
    FnG P w K mg base CX0 13 f fd ["_law_world_here", "_law_pasts", "_law_name_here", "_law_word"] (spNt K C) := by
  obtain ⟨_, _, MM_log, MB_log, MF_log⟩ := M_log.ex
  refine fun_g0 F sc_law_noted (fun {vs H Q E} h => ?_) (fun cdv A outer s H vs Q E gd hr h => ?_)
  · obtain ⟨τ, W, ks, g, u, x, PD, pa, rfl, _⟩ := h
    rfl
  · obtain ⟨τ, W, ks, g, u, x, PD, pa, rfl, sim, ps, hu, hm, wl, w1, w2, q⟩ := h
    have hu1 := hu_of hr
    refine ⟨_, (pss_cons (ps_dput hu1 (pv 1) (pe_tup (pa_cons (pv 2) (pa_cons (pv 3) pa_nil))) (pe_meth0 (pe_dget hu1 (pe_dget hu1 (pv 0) pe_str (fun _ _ => rfl)) (pv 2) (fun _ _ => rfl)) T.cl MM_log MF_log (hr.mono (by decide)) MB_log .nil pass0) rfl)
 (pss_one (ps_ret (pe_callFg (E := E0) G_law_wrote gd (hr.mono (by decide)) (by rfl) pass0 (pa_cons (pv 0) (pa_cons (pv 2) (pa_cons (pv 3) pa_nil))))))), ?_⟩
    have sw := sim.w
    obtain ⟨ad, hw⟩ := sw.hw u hu
    refine ⟨_, rfl, W.D, _, rfl, sw.gH, _, rfl, W.hD, _, rfl, sw.gh hu, W.ha u, ad.dx, _, rfl, hw.hs.at_, (by rfl), W.ha u, stOf g u, ad, rfl, hw.hs, fun H1 L us s1 nL eL dL => ?_⟩
    refine ⟨_, rfl, _, rfl, _, rfl, (by show 2 ≤ sizeLine; decide), fun tk nt => ?_⟩
    have s2 := same_upd (o := .tup [.str u, .str x]) nt
    have g2 : (upd H1 tk (.tup [.str u, .str x])) tk = some (.tup ((kq (u, x)).map kV)) := upd_same
    generalize upd H1 tk (.tup [.str u, .str x]) = H2 at s2 g2 ⊢
    have s02 := s1.trans s2
    obtain ⟨k3, p3⟩ := ps.note hm s02 nL (s2 _ _ eL) (dL.same (fz_keep (FzK.of s2)) : Dns K (fz H2) us ((g.lg u).map logM)) (sim.s.lgl u)
    refine ⟨PD, _, rfl, DPut.t (s02 _ _ ps.d) g2 (by rw [ckv_len]; exact small200 (by omega)), ?_⟩
    generalize upd H2 PD _ = H3 at k3 p3 ⊢
    have sim3 := sim.pd k3
    refine ⟨_, rfl, _, rfl, _, rfl, _, W, ks, g, u, x, rfl, sim3, hu, hm, wl, w1, w2, fun H4 fa ks' τ4 k4 sim4 => ?_⟩
    exact q H4 fa ks' τ4 _ ((k3.mono fun _ z => .inr (.inl z)).trans (k4.mono fun _ z => .inl z)) sim4 (p3.tw k4)
end
end My

namespace My
open PySem PySem.Spec PyProof.Rows L2 Gy Xl Xs Xt Xo Xp Xu Xd
/-! ### deliveries until all channels are empty -/
def Tr (t : Tag) : Prop := Tw t ∨ t = .po
section
variable {P : Program} {w : World} {K : PySem.W.Frag} {mg : Str → Option Value} {base : Heap} {C CW : Addr} {H H1 H2 : Hp} {t : Tag → Prop} {τ τ1 : Tg} {W : WA} {hs : List Str} {ks ks' : List (Str × Str)} {g : GS} {r : Addr}
theorem Kt.but (b : But r H H1) (R : Rng H r) (R1 : Rng H1 r) (tr : τ r = some .po) : Kt (· = .po) τ τ H H1 := by
  obtain ⟨x, y, e, _⟩ := R
  obtain ⟨x1, y1, e1, _⟩ := R1
  refine ⟨fun a o ea n => b a o (fun z => n .po (z ▸ tr) rfl) ea, fun _ _ => rfl, fun a ea => ?_, fun a o u ea => b a _ (fun z => ?_) ea, fun k a n ea => ?_⟩
  · cases z : H a with
    | none => rfl
    | some o =>
      by_cases c : a = r
      · rw [c, e1] at ea
        cases ea
      · rw [b a o c z] at ea
        cases ea
  · rw [z, e] at ea
    cases ea
  · have := k a n
    cases z : H a with
    | none => exact this z
    | some o =>
      by_cases c : a = r
      · rw [c, e1] at ea
        cases ea
      · rw [b a o c z] at ea
        cases ea
theorem Sim.po (z : Sim K C H τ W ks g) (k : Kt (· = .po) τ τ1 H H1) : Sim K C H1 τ1 W ks g := ⟨z.w.keep k (by simp) (by simp) (by simp) (by simp), z.s, z.k⟩
theorem rng_tw {τ' : Tg} (R : Rng H r) (tr : τ r = some .po) (k : Kt t τ τ' H H1) (n : ¬ t .po) : Rng H1 r ∧ τ' r = some .po := by
  obtain ⟨x, y, e, h⟩ := R
  have z := k.at_ e tr n
  exact ⟨⟨x, y, z.1, h⟩, z.2⟩
theorem tw_po : ¬ Tw .po := not_tw (by simp) (by simp) (by simp) (by simp)
theorem Kps.mem2 {vs : List V} {ps : List (Str × Str)} (h : Kps H vs ps) {v : V} (m : v ∈ vs) : ∃ p ∈ ps, Kp H v p := by
  obtain ⟨i, hi, e⟩ := List.mem_iff_getElem.mp m
  obtain ⟨p, hp, k⟩ := h.get (i := i) (v := v) (by rw [List.getElem?_eq_getElem hi, e])
  exact ⟨p, List.mem_of_getElem? hp, k⟩
theorem busy_in {p : Str × Str} {qs : List (Str × Str)} (pm : qs.Perm (busyL ks (flOf g))) (m : p ∈ qs) : ∃ mm rest, g.fl p = mm :: rest := by
  have := (List.mem_filter.mp (pm.mem_iff.mp m)).2
  unfold busyP flOf at this
  cases e : g.fl p with
  | nil =>
    rw [e] at this
    exact absurd this (by decide)
  | cons a b => exact ⟨a, b, rfl⟩
theorem busy_no (z : Sim K C H τ W ks g) (pm : ([] : List (Str × Str)).Perm (busyL ks (flOf g))) (k : Str × Str) : g.fl k = [] := by
  have e := List.Perm.eq_nil pm.symm
  by_cases m : k ∈ ks
  · have := List.filter_eq_nil_iff.mp e k m
    unfold busyP flOf at this
    cases h : g.fl k with
    | nil => rfl
    | cons a b =>
      rw [h] at this
      exact absurd rfl this
  · have := z.w.f0 k m
    unfold flOf at this
    exact List.map_eq_nil_iff.mp this
def spRest (K : PySem.W.Frag) (C : Addr) : Sp := fun vs H Q _ => ∃ (τ : Tg) (W : WA) (ks : List (Str × Str)) (g : GS) (r : Addr), vs = [.ref r, .ref W.D] ∧ Sim K C H τ W ks g ∧ Rng H r ∧ τ r = some .po ∧
  ∀ H' fa ks' τ' g', Kt Tr τ τ' H H' → Sim K C H' τ' (Tch W fa) ks' g' → Rng H' r → (∀ k, g'.fl k = []) → g'.r = g.r → g'.ps = g.ps → g'.ws = g.ws → g'.past = g.past → Q (.bl true) H'
structure Bsy (H : Hp) (τ : Tg) (L : Addr) (ys : List V) (qs : List (Str × Str)) (ks : List (Str × Str)) (g : GS) : Prop where
  e : H L = some (.lst ys)
  t : τ L = none
  k : Kps H ys qs
  p : qs.Perm (busyL ks (flOf g))
theorem ok_rest {f : Addr} {fd : FuncData} (F : Fun K "_law_at_rest" "_law_at_rest" s_law_at_rest f fd) (Y : Bn mg) (G_law_busy : Fk P w K mg base CX0 1 "_law_busy" ["_law_world_here"] (spBusy K C)) (G_law_choose : Fk P w K mg base CX0 2 "_law_choose" ["_law_pot_here", "_law_values"] spCh)
    (G_law_delivered : Fg P w K mg base CX0 12 "_law_delivered" ["_law_world_here", "_law_pair"] (spDel K C)) : FnG P w K mg base CX0 13 f fd ["_law_pot_here", "_law_world_here"] (spRest K C) := by
  refine fun_g0 F sc_law_at_rest (fun {vs H Q E} h => ?_) (fun cdv A outer s H vs Q E gd hr h => ?_)
  · obtain ⟨τ, W, ks, g, r, rfl, _⟩ := h
    rfl
  · obtain ⟨τ, W, ks, g, r, rfl, sim, R, tr, q⟩ := h
    have hu1 := hu_of hr
    have hu0 := Nat.lt_of_succ_lt hu1
    refine ⟨_, (pss_cons (ps_set (i := 2) sc_law_at_rest.nd rfl (.inl rfl) (pe_callF G_law_busy (hr.mono (by decide)) (by rfl) pass0 (pa_cons (pv 1) pa_nil)))
 (pss_cons (ps_while PassesOwn.never (pt_cmpR (op_neEmL hu0) (pv 2) (pe_lst pa_nil) (nomark _))
 (pss_cons (ps_if (pt_not (pt_val (pe_callFg (E := E0) G_law_delivered gd (hr.mono (by decide)) (by rfl) pass0 (pa_cons (pv 1) (pa_cons (pe_callF G_law_choose (hr.mono (by decide)) (by rfl) pass0 (pa_cons (pv 0) (pa_cons (pv 2) pa_nil))) pa_nil)))))
 (pss_one (ps_ret pe_bl))
 pss_nil)
 (pss_one (ps_set (i := 2) sc_law_at_rest.nd rfl (.inl rfl) (pe_callF G_law_busy (hr.mono (by decide)) (by rfl) pass0 (pa_cons (pv 1) pa_nil))))))
 (pss_one (ps_ret pe_bl)))), ?_⟩
    have kl0 := sim.kl
    refine ⟨_, rfl, τ, W, g.hs, ks, flOf g, stOf g, stOf g, rfl, sim.w, by omega, fun H1 L ys qs s1 nL eL kp pm pw => ?_⟩
    have sim1 := sim.same s1
    refine ⟨fun m σ H' => ∃ (τ' : Tg) (fa : Str × Str → Addr) (ks' : List (Str × Str)) (g' : GS) (L' : Addr) (ys' : List V) (qs' : List (Str × Str)), m = g'.left ∧ σ = [some (.ref r), some (.ref W.D), some (.ref L')] ∧ Kt Tr τ τ' H H' ∧ Sim K C H' τ' (Tch W fa) ks' g' ∧ Rng H' r ∧ τ' r = some .po ∧ Bsy H' τ' L' ys' qs' ks' g' ∧ g'.r = g.r ∧ g'.ps = g.ps ∧ g'.ws = g.ws ∧ g'.past = g.past,
      ⟨_, τ, W.fa, ks, g, L, ys, qs, rfl, rfl, Kt.same s1, sim1, R.same s1, tr, ⟨eL, sim.w.new nL, kp, pm⟩, rfl, rfl, rfl, rfl⟩, ?_⟩
    rintro m σ H2 ⟨τ2, fa, ks2, g2, L2, ys2, qs2, rfl, rfl, k2, sim2, R2, tr2, B, e1, e2, e3, e4⟩
    refine ⟨_, rfl, Nat.zero_le _, fun l nl => ?_⟩
    have s3 := same_upd (o := .lst []) nl
    have g3 : (upd H2 l (.lst [])) l = some (.lst []) := upd_same
    generalize upd H2 l (.lst []) = H3 at s3 g3 ⊢
    have B3 := s3 _ _ B.e
    refine ⟨L2, l, ys2, rfl, rfl, SqL.of B3, SqL.of g3, _, rfl, ?_⟩
    have sim3 := sim2.same s3
    have R3 := R2.same s3
    have kp3 := B.k.same s3
    have k3 := k2.trans (Kt.same (t := Tr) s3)
    cases hy : ys2 with
    | nil =>
      refine iteF ?_
      have q0 : qs2 = [] := by
        have := B.k.len
        rw [hy] at this
        exact List.eq_nil_of_length_eq_zero this.symm
      exact q H3 fa ks2 τ2 g2 k3 sim3 R3 (busy_no sim3 (by rw [← q0]; exact B.p)) e1 e2 e3 e4
    | cons y0 yr =>
      refine iteT ⟨_, fun σ' H' h => h, ?_⟩
      have nLr : L2 ≠ r := fun z => by
        have := B.t
        rw [z, tr2] at this
        cases this
      have yl : ys2.length ≤ 121 := by
        rw [B.k.len, B.p.length_eq]
        have := sim2.kl
        exact Nat.le_trans (List.length_filter_le _ _) this
      refine ⟨_, rfl, _, rfl, _, rfl, r, L2, ys2, rfl, R3, nLr, B3, by rw [hy]; exact Nat.succ_pos _, by omega, fun H4 u b4 R4 hu => ?_⟩
      have k4 := Kt.but b4 R3 R4 tr2
      have sim4 := sim3.po k4
      obtain ⟨p, hp, t, rfl, ep⟩ := Kps.mem2 kp3 hu
      obtain ⟨u, v⟩ := p
      obtain ⟨mm, rest, hf⟩ := busy_in B.p hp
      have ntr : t ≠ r := fun z => by
        obtain ⟨_, _, e, _⟩ := R3
        rw [z, e] at ep
        cases ep
      refine ⟨τ2, Tch W fa, ks2, g2, t, u, v, mm, rest, rfl, sim4, ⟨t, rfl, b4 _ _ ntr ep⟩, hf, fun H5 fa5 ks5 τ5 k5 sim5 => ?_⟩
      refine ⟨_, rfl, iteF ?_⟩
      obtain ⟨R5, tr5⟩ := rng_tw R4 tr2 k5 tw_po
      have kl5 := sim5.kl
      refine ⟨_, rfl, τ5, Tch W fa5, (g2.got u v mm rest).hs, ks5, flOf (g2.got u v mm rest), stOf (g2.got u v mm rest), stOf (g2.got u v mm rest), rfl, sim5.w, by omega, fun H6 L6 ys6 qs6 s6 nL6 eL6 kp6 pm6 _ => ?_⟩
      refine ⟨_, sim2.s.fl.less hf, τ5, fa5, ks5, g2.got u v mm rest, L6, ys6, qs6, rfl, rfl, ?_, sim5.same s6, R5.same s6, tr5, ⟨eL6, sim5.w.new nL6, kp6, pm6⟩, e1, e2, e3, e4⟩
      exact ((k3.trans (k4.mono fun _ z => .inr z)).trans (k5.mono fun _ z => .inl z)).trans (Kt.same s6)
end
end My

namespace My
open PySem PySem.Spec PyProof.Rows L2 Gy Xl Xs Xt Xo Xp Xu Xd
/-! ### a leaf joins: what the mathematics says -/
theorem nbr_at {ps : List Lnk} {l a : Str} (n : a ≠ l) : nbr (ps ++ [(l, a)]) a = nbr ps a ++ [l] := by
  unfold nbr
  rw [List.filter_append, List.filter_append, List.map_append, List.map_append]
  rw [show [(l, a)].filter (fun p => decide (p.1 = a)) = [] from List.filter_cons_of_neg (by rw [decide_eq_true_eq]; exact fun z => n z.symm)]
  rw [show [(l, a)].filter (fun p => decide (p.2 = a)) = [(l, a)] from List.filter_cons_of_pos (by exact decide_eq_true rfl)]
  rw [List.map_nil, List.append_nil, ← List.append_assoc]
  rfl
theorem nbr_off {ps : List Lnk} {l a y : Str} (n1 : y ≠ a) (n2 : y ≠ l) : nbr (ps ++ [(l, a)]) y = nbr ps y := by
  unfold nbr
  rw [List.filter_append, List.filter_append, List.map_append, List.map_append]
  rw [show [(l, a)].filter (fun p => decide (p.1 = y)) = [] from List.filter_cons_of_neg (by rw [decide_eq_true_eq]; exact fun z => n2 z.symm)]
  rw [show [(l, a)].filter (fun p => decide (p.2 = y)) = [] from List.filter_cons_of_neg (by rw [decide_eq_true_eq]; exact fun z => n1 z.symm)]
  rw [List.map_nil, List.map_nil, List.append_nil, List.append_nil]
theorem nbr_leaf {r : Str} {ps : List Lnk} (g : Gr r ps) {l a : Str} (hl : l ∉ hsT r ps) (n : a ≠ l) : nbr (ps ++ [(l, a)]) l = [a] := by
  have e1 : ps.filter (fun p => decide (p.1 = l)) = [] := List.filter_eq_nil_iff.mpr fun p hp z => hl (by rw [← of_decide_eq_true z]; exact (g.mem (show (p.1, p.2) ∈ ps from hp)).1)
  have e2 : ps.filter (fun p => decide (p.2 = l)) = [] := List.filter_eq_nil_iff.mpr fun p hp z => hl (by rw [← of_decide_eq_true z]; exact (g.mem (show (p.1, p.2) ∈ ps from hp)).2)
  unfold nbr
  rw [List.filter_append, List.filter_append, e1, e2]
  rw [show [(l, a)].filter (fun p => decide (p.1 = l)) = [(l, a)] from List.filter_cons_of_pos (by exact decide_eq_true rfl)]
  rw [show [(l, a)].filter (fun p => decide (p.2 = l)) = [] from List.filter_cons_of_neg (by rw [decide_eq_true_eq]; exact n)]
  rfl
theorem hs_join {g : GS} {l a : Str} : (g.join l a).hs = g.hs ++ [l] := by
  show hsT g.r (g.ps ++ [(l, a)]) = _
  rw [hsT_app]
  rfl
theorem stOf_join {g : GS} (s : Sml g) {l a : Str} (hl : l ∉ g.hs) (ha : a ∈ g.hs) : (fun y => if y = l then (⟨l, srt [a], (g.lg a).map logM, none, "free", [], []⟩ : HS) else if y = a then { stOf g a with lk := srt (nbr g.ps a ++ [l]) } else stOf g y) = stOf (g.join l a) := by
  have al : a ≠ l := fun z => hl (z ▸ ha)
  funext y
  by_cases e : y = l
  · rw [if_pos e, e]
    show _ = HS.mk l (srt (nbr (g.ps ++ [(l, a)]) l)) (((g.join l a).lg l).map logM) _ _ _ _
    rw [nbr_leaf s.fl.gr hl al, show (g.join l a).lg l = g.lg a from if_pos rfl]
  · rw [if_neg e]
    by_cases d : y = a
    · rw [if_pos d, d]
      show _ = HS.mk a (srt (nbr (g.ps ++ [(l, a)]) a)) (((g.join l a).lg a).map logM) _ _ _ _
      rw [nbr_at al, show (g.join l a).lg a = g.lg a from if_neg al]
      rfl
    · rw [if_neg d]
      show HS.mk y (srt (nbr g.ps y)) ((g.lg y).map logM) _ _ _ _ = HS.mk y (srt (nbr (g.ps ++ [(l, a)]) y)) (((g.join l a).lg y).map logM) _ _ _ _
      rw [nbr_off d e, show (g.join l a).lg y = g.lg y from if_neg e]
theorem Sml.join {g : GS} (s : Sml g) {l a : Str} (hl : l ∉ g.hs) (ha : a ∈ g.hs) (nl : Nm l) (h10 : g.hs.length < 11) : Sml (g.join l a) := by
  refine ⟨s.fl.join hl ha, fun x hx => ?_, ?_, s.wl, s.wd⟩
  · rw [hs_join] at hx
    rcases List.mem_append.mp hx with z | z
    · exact s.nm x z
    · rw [List.mem_singleton.mp z]
      exact nl
  · rw [hs_join, List.length_append]
    exact h10
/-- the pairs -/
structure Prl (H : Hp) (τ : Tg) (LP : Addr) (ps : List Lnk) : Prop where
  ex : ∃ us, H LP = some (.lst us) ∧ Xp.Prs H us ps
  t : τ LP = some .pr
theorem pr_fzk {H H1 : Hp} {us : List V} {ls : List (Str × Str)} (h : Xp.Prs H us ls) (s : FzK H H1) : Xp.Prs H1 us ls := by
  induction h with
  | nil => exact .nil
  | cons h t ih =>
    obtain ⟨a, rfl, o, z, c⟩ := h
    exact .cons ⟨a, rfl, o, s _ _ _ z, c⟩ ih
theorem Prl.keep {H H1 : Hp} {τ τ1 : Tg} {LP : Addr} {ps : List Lnk} {t : Tag → Prop} (p : Prl H τ LP ps) (k : Kt t τ τ1 H H1) (n : ¬ t .pr) : Prl H1 τ1 LP ps := by
  obtain ⟨us, e, pr⟩ := p.ex
  exact ⟨⟨us, (k.at_ e p.t n).1, pr_fzk pr k.fk⟩, (k.at_ e p.t n).2⟩
def Tj (t : Tag) : Prop := Tw t ∨ Td t ∨ t = .po ∨ t = .pr
theorem off_offA {K : PySem.W.Frag} {C : Addr} {H H1 : Hp} {h : Addr} {ad ad' : HA} {st' : HS} (o : Off h H H1) (hx : Hst K C H1 h st' ad') : OffA h ad H H1 := ⟨fun y u e n _ _ _ => o _ _ e n, fun y e => by
  cases z : H y with
  | none => rfl
  | some u =>
    by_cases c : y = h
    · rw [c, hx.at_] at e
      cases e
    · rw [o _ _ z c] at e
      cases e⟩
theorem nkv_keys (xs : List Str) (f : Str → Addr) : (nkv xs f).map (·.1) = xs.map Sum.inr := by
  unfold nkv
  rw [List.map_map]
  rfl
end My

/-! d[k], k a tuple that was laid frozen. -/
namespace Xd
open PySem PySem.Spec PyProof.Rows L2 Gy Xt
section
variable {X : Cx}
theorem keyZ_of {P : Program} {w : World} {H : Hp} {h : Heap} {a : Addr} {ks : List L2.Key} (ok : HOk P w H h) (e : Tz H a (ks.map kV)) : (tupleKind (mixKind P w)).is h ks a := by
  obtain ⟨o0, e, _⟩ := e
  obtain ⟨_, h2⟩ := (show h.get? a = some o0 ∧ ObjOk P w H h a (.tup (ks.map kV)) from ok a _ e)
  obtain ⟨_, its, r, o, h1, h2, n, h3⟩ := h2
  exact ⟨o, its.toArray, n, h1, h2, h3, by simpa using items_are r⟩
def tDGetZ (td ty : TE) : TE := fun σ H Q => td σ H fun x H1 => ty σ H1 fun y H2 => ∃ (a b : Addr) (kvs : List (List L2.Key × V)) (k : List L2.Key) (v : V), x = .ref a ∧ y = .ref b ∧ H2 a = some (.dT kvs) ∧ Tz H2 b (k.map kV) ∧ valV kvs k = some v ∧ Q v H2
theorem pe_dgetZ {o i : Expr} {td ty : TE} {pos : Pos} (hu : X.A.units + 1 < cLine) (ho : PE X o td) (hi : PE X i ty) (hs : NoSl i) : PE X (.Subscript o i pos) (tDGetZ td ty) := by
  refine ⟨fun pins s σ H Q I h => ?_⟩
  refine subD_of PySem.F.slot_dict_getitem.lookup hs (thn (ho.run pins s σ H _ I h) fun u s1 ⟨x, H1, I1, rx, q1⟩ => thn (hi.run pins s1 σ H1 _ I1 q1) fun iv s2 ⟨y, H2, I2, ry, a, b, kvs, k, v, ex, ey, e, eb, l, q2⟩ => ?_)
  subst ex
  obtain rfl : u = Value.ref a := rx
  subst ey
  cases (show iv = Value.ref b from ry)
  obtain ⟨z, hd, xs, rel, dd⟩ := dt_of I2.hok e
  obtain ⟨w', hw, rw'⟩ := RelO.some_of (v := v) (o := (atKey xs k).map (·.2)) (by rw [← l]; exact rel.val k)
  obtain ⟨p, hp, hp2⟩ := Option.map_eq_some_iff.mp hw
  refine ⟨dd.typeIs, wpAny_getItem_heap (tupleKind_room_in1 hu) (keyZ_of I2.hok eb) dd hp ?_⟩
  rw [hp2]
  exact ⟨v, H2, I2.tok _, rw', q2⟩
end
end Xd

namespace My
open PySem PySem.Spec PyProof.Rows L2 Gy Xl Xs Xt Xo Xp Xu Xd
/-! ### pairs of texts as data -/
theorem eqv_pair (p q : Str × Str) : PyData.eqv (Xp.prD p) (Xp.prD q) = decide (p = q) := by
  have e : PyData.eqv (Xp.prD p) (Xp.prD q) = ((p.1 == q.1) && (p.2 == q.2)) := by
    simp only [Xp.prD, PyData.eqv, PyData.eqvAll, Bool.and_true]
  rw [e, Bool.eq_iff_iff, Bool.and_eq_true, decide_eq_true_eq, beq_iff_eq, beq_iff_eq, Prod.ext_iff]
def Okp (p : Str × Str) : Prop := PyData.strOk p.1 = true ∧ PyData.strOk p.2 = true
theorem word_ok {x : Str} (h : isWord (.str x) = true) : PyData.strOk x = true := by
  unfold PyData.strOk
  rw [← Array.all_toList, List.all_eq_true]
  intro c hc
  have z : ∀ d ∈ WSG.cps.toList, d < 0x110000 := by decide +kernel
  have h2 : allIn WSG x = true := (Bool.and_eq_true_iff.mp (show (_ && allIn WSG x) = true from h)).2
  exact decide_eq_true (z c (of_decide_eq_true (List.all_eq_true.mp h2 c hc)))
theorem dep_prs : ∀ ps : List (Str × Str), PyData.depthAll (ps.map Xp.prD) ≤ 1
  | [] => Nat.zero_le _
  | p :: ps => by
    show max 1 (PyData.depthAll (ps.map Xp.prD)) ≤ 1
    have := dep_prs ps
    omega
theorem lay_okp {ls : List (Str × Str)} (h : ∀ p ∈ ls, Okp p) : PyData.canLayAll0 (ls.map Xp.prD) = true := by
  induction ls with
  | nil => rfl
  | cons p ls ih =>
    show ((PyData.strOk p.1 && (PyData.strOk p.2 && true)) && PyData.canLayAll0 (ls.map Xp.prD)) = true
    rw [(h p List.mem_cons_self).1, (h p List.mem_cons_self).2, ih fun q hq => h q (List.mem_cons_of_mem _ hq)]
    rfl
theorem sh_okp {p : Str × Str} (h : Okp p) : SeqAt.shaped (Xp.prD p) = true := by
  have e : (Xp.prD p).canLay0 = true := by
    show (PyData.strOk p.1 && (PyData.strOk p.2 && true)) = true
    rw [h.1, h.2]
    rfl
  unfold SeqAt.shaped
  rw [e]
  rfl
theorem sh_okps {ls : List (Str × Str)} (h : ∀ p ∈ ls, Okp p) : SeqAt.shaped (.list (ls.map Xp.prD)) = true := by
  unfold SeqAt.shaped
  rw [show PyData.canLay0 (.list (ls.map Xp.prD)) = true from lay_okp h]
  have k : PyData.depth (.list (ls.map Xp.prD)) ≤ 2 := Nat.succ_le_succ (dep_prs ls)
  rw [Bool.true_and]
  exact decide_eq_true (by omega)
section
variable {K : PySem.W.Frag} {H : Hp}
theorem dns_prs : ∀ {us : List V} {ls : List (Str × Str)}, Dns K H us (ls.map Xp.prD) → Xp.Prs H us ls
  | [], [], _ => .nil
  | [], p :: ls, h => nomatch h
  | v :: us, [], h => nomatch h
  | v :: us, p :: ls, h => by
    cases h with
    | cons a t =>
      cases a with
      | tup z x =>
        cases x with
        | cons x1 x =>
          cases x with
          | cons x2 x =>
            cases x
            cases x1
            cases x2
            exact .cons ⟨_, rfl, z⟩ (dns_prs t)
theorem dp_pr {v : V} {p : Str × Str} (h : Xp.Pr H v p) : Dp K H v (Xp.prD p) := by
  obtain ⟨t, rfl, z⟩ := h
  exact .tup z.sq (.cons (.str _) (.cons (.str _) .nil))
theorem prs_dpa {us : List V} {ls : List (Str × Str)} (h : Xp.Prs H us ls) : DpAll K H us (ls.map Xp.prD) := by
  induction h with
  | nil => exact .nil
  | cons h t ih => exact .cons (dp_pr h) ih
theorem kps_dpa {us : List V} {ls : List (Str × Str)} (h : Kps H us ls) : DpAll K H us (ls.map Xp.prD) := by
  unfold Kps at h
  induction h with
  | nil => exact .nil
  | cons h t ih =>
    obtain ⟨t, rfl, z⟩ := h
    exact .cons (.tup (.inl (.inl z)) (.cons (.str _) (.cons (.str _) .nil))) ih
theorem any_eqv (p : Str × Str) (ls : List (Str × Str)) : ((ls.map Xp.prD).any fun z => PyData.eqv z (Xp.prD p)) = decide (p ∈ ls) := by
  induction ls with
  | nil => rfl
  | cons q ls ih =>
    rw [List.map_cons, List.any_cons, ih, eqv_pair]
    by_cases e : q = p
    · subst e
      rw [decide_eq_true rfl, decide_eq_true List.mem_cons_self]
      rfl
    · rw [decide_eq_false e, Bool.false_or]
      by_cases m : p ∈ ls
      · rw [decide_eq_true m, decide_eq_true (List.mem_cons_of_mem _ m)]
      · rw [decide_eq_false m, decide_eq_false fun z => m ((List.mem_cons.mp z).resolve_left fun w => e w.symm)]
end
theorem Sml.okp {g : GS} (s : Sml g) {m : Msg} (h : m ∈ g.ws) : Okp m := ⟨nm_ok (s.nm _ (s.fl.own m h).1), word_ok (s.wd m h).1⟩
end My

namespace My
open PySem PySem.Spec PyProof.Rows L2 Gy Xl Xs Xt Xo Xp Xu Xd
/-! ### the links as the hosts show them -/
/-- a pair, sorted -/
def spr (p : Str × Str) : Str × Str := match srt [p.1, p.2] with
  | [a, b] => (a, b)
  | _ => p
theorem two_of {l : List Str} (h : l.length = 2) : ∃ a b, l = [a, b] := match l, h with
  | [a, b], _ => ⟨a, b, rfl⟩
theorem spr_at (p : Str × Str) : srt [p.1, p.2] = [(spr p).1, (spr p).2] := by
  obtain ⟨a, b, e⟩ := two_of (show (srt [p.1, p.2]).length = 2 by rw [srt_len]; rfl)
  unfold spr
  rw [e]
theorem spr_swap (a b : Str) : spr (a, b) = spr (b, a) := by
  have e : srt [a, b] = srt [b, a] := srt_congr (List.Perm.swap b a [])
  have h1 := spr_at (a, b)
  have h2 := spr_at (b, a)
  dsimp only at h1 h2
  rw [e, h2] at h1
  injection h1 with h3 h4
  injection h4 with h4 _
  exact Prod.ext h3.symm h4.symm
theorem spr_in {p : Str × Str} : (spr p).1 ∈ [p.1, p.2] ∧ (spr p).2 ∈ [p.1, p.2] := by
  have h := spr_at p
  have m : ∀ y, y ∈ [(spr p).1, (spr p).2] → y ∈ [p.1, p.2] := fun y hy => srt_mem.mp (by rw [h]; exact hy)
  exact ⟨m _ List.mem_cons_self, m _ (List.mem_cons_of_mem _ List.mem_cons_self)⟩
theorem flat_app {α β : Type} {A B : α → List β} : ∀ xs : List α, (xs.map fun x => A x ++ B x).flatten.Perm ((xs.map A).flatten ++ (xs.map B).flatten)
  | [] => List.Perm.refl _
  | x :: xs => by
    simp only [List.map_cons, List.flatten_cons]
    have ih := flat_app (A := A) (B := B) xs
    refine (List.Perm.append_left _ ih).trans ?_
    rw [List.append_assoc, List.append_assoc]
    refine List.Perm.append_left _ ?_
    rw [← List.append_assoc, ← List.append_assoc]
    exact List.Perm.append_right _ List.perm_append_comm
theorem flat_perm {α β : Type} {A B : α → List β} : ∀ {xs : List α}, (∀ x ∈ xs, (A x).Perm (B x)) → (xs.map A).flatten.Perm (xs.map B).flatten
  | [], _ => List.Perm.refl _
  | x :: xs, h => by
    simp only [List.map_cons, List.flatten_cons]
    exact (h x List.mem_cons_self).append (flat_perm fun y hy => h y (List.mem_cons_of_mem _ hy))
/-- all links, as the hosts show them -/
def shownL (hs : List Str) (ps : List Lnk) : List (Str × Str) := (hs.map fun x => (srt (nbr ps x)).map fun y => spr (x, y)).flatten
theorem shownL_perm {r : Str} {ps : List Lnk} (g : Gr r ps) : (shownL (hsT r ps) ps).Perm (ps.map spr ++ ps.map spr) := by
  have nd := g.nd
  have one : ∀ (f : Lnk → Str), (∀ p ∈ ps, f p ∈ hsT r ps) → ((hsT r ps).map fun x => (ps.filter fun p => decide (f p = x)).map spr).flatten.Perm (ps.map spr) := fun f h => by
    have := (part_perm (f := f) nd h).map spr
    rw [List.map_flatten, List.map_map] at this
    exact this
  have o1 := one Prod.fst fun p hp => (g.mem (show (p.1, p.2) ∈ ps from hp)).1
  have o2 := one Prod.snd fun p hp => (g.mem (show (p.1, p.2) ∈ ps from hp)).2
  unfold shownL
  refine (flat_perm (B := fun x => (ps.filter fun p => decide (p.1 = x)).map spr ++ (ps.filter fun p => decide (p.2 = x)).map spr) fun x hx => ?_).trans ((flat_app _).trans (o1.append o2))
  refine ((srt_perm _).map _).trans ?_
  unfold nbr
  rw [List.map_append, List.map_map, List.map_map]
  refine List.Perm.of_eq ?_
  congr 1
  · refine List.map_congr_left fun p hp => ?_
    have e := of_decide_eq_true (List.mem_filter.mp hp).2
    show spr (x, p.2) = spr p
    rw [← e]
  · refine List.map_congr_left fun p hp => ?_
    have e := of_decide_eq_true (List.mem_filter.mp hp).2
    show spr (x, p.1) = spr p
    rw [spr_swap, ← e]
theorem eqv_prs : ∀ ls : List (Str × Str), PyData.eqv (.list (ls.map Xp.prD)) (.list (ls.map Xp.prD)) = true
  | [] => rfl
  | p :: ls => by
    have ih := eqv_prs ls
    have e := eqv_pair p p
    rw [decide_eq_true rfl] at e
    simp only [PyData.eqv, List.map_cons, PyData.eqvAll, Bool.and_eq_true] at ih ⊢
    exact ⟨e, ih⟩
end My

namespace My
open PySem PySem.Spec PyProof.Rows L2 Gy Xl Xs Xt Xo Xp Xu Xd
/-! ### each message after all that its writer had logged -/
section
variable {P : Program} {w : World} {K : PySem.W.Frag} {mg : Str → Option Value} {base : Heap} {C CW : Addr} {H H1 H2 : Hp} {t : Tag → Prop} {τ τ1 : Tg} {W : WA} {hs : List Str} {ks ks' : List (Str × Str)} {g : GS} {PD : Addr} {pa : Msg → Addr}
/-- the hosts' dict is locked -/
theorem Wd.lockH {fl : Str × Str → List PyData} {sh sm : Str → HS} (w : Wd K C H τ W hs ks fl sh sm) (od : Obj) : Kt (· = .dh) τ τ H (upd H W.hD (.frz od (.dK (nkv hs W.ha)))) :=
  (Kt.same (Same.refl H)).updT fun o e => ⟨⟨_, w.th, rfl⟩, fun _ _ z => by rw [w.h] at e; injection e with e; rw [← e] at z; cases z⟩
theorem nkv_at {xs : List Str} {f : Str → Addr} {i : Nat} {k : L2.Key} {v : V} (h : (nkv xs f)[i]? = some (k, v)) : ∃ x, xs[i]? = some x ∧ k = .inr x ∧ v = .ref (f x) := by
  unfold nkv at h
  rw [List.getElem?_map] at h
  obtain ⟨j, hj, e⟩ := Option.map_eq_some_iff.mp h
  injection e with e1 e2
  exact ⟨j, hj, e1.symm, e2.symm⟩
def spCau (K : PySem.W.Frag) (C : Addr) : Sp := fun vs H Q _ => ∃ (τ : Tg) (W : WA) (ks : List (Str × Str)) (g : GS) (PD : Addr) (pa : Msg → Addr), vs = [.ref W.D, .ref PD] ∧ Sim K C H τ W ks g ∧ Pst K H τ PD pa g.ws g.past ∧ ∀ H', Same H H' → Q (.bl true) H'
theorem ok_cau {f : Addr} {fd : FuncData} (F : Fun K "_law_causal" "_law_causal" s_law_causal f fd) (Y : Bn mg) (T : Ch K C) (M_log : Fm P w K mg base CX0 1 C "log" ["self"] (spLst K C fun st => st.lg)) : FnOk P w K mg base CX0 2 f fd ["_law_world_here", "_law_pasts"] (spCau K C) := by
  obtain ⟨_, _, MM_log, MB_log, MF_log⟩ := M_log.ex
  refine F.ok sc_law_causal (fun vs H Q E h => ?_) (fun cdv A outer s H vs Q E hr h => ?_)
  · obtain ⟨τ, W, ks, g, PD, pa, rfl, _⟩ := h
    rfl
  · obtain ⟨τ, W, ks, g, PD, pa, rfl, sim, ps, q⟩ := h
    have hu1 := hu_of hr
    have hu65 := Nat.lt_of_le_of_lt (Nat.add_le_add_left (show 65 ≤ 70 by decide) _) (Room.units70 hr)
    refine ⟨_, (pss_cons (ps_lock (ps_for PassesOwn.never rfl (pi_values (pe_dget hu1 (pv 0) pe_str (fun _ _ => rfl))) (pg_name (i := 2) sc_law_causal.nd rfl (Or.inl rfl))
 (pss_cons (ps_set (i := 3) sc_law_causal.nd rfl (.inr rfl) (pe_lst pa_nil))
 (pss_one (ps_for PassesOwn.never rfl (pi_list (pe_meth0 (pv 2) T.cl MM_log MF_log (hr.mono (by decide)) MB_log .nil pass0)) (pg_name (i := 4) sc_law_causal.nd rfl (Or.inl rfl))
 (pss_cons (ps_if (PW.pt (pw_or (pt_cmpR (op_inD hu65) (pv 4) (pv 3) rfl) (pw_or1 (pt_not (pt_val (pe_callB (cr_all rfl) (by rfl) Y.all (by decide +kernel) (pa_cons (pe_lc (own := [("_law_earlier", 5)]) (g := gName 5) (tt := tYes) rfl sc_law_causal.nd (pi_list (pe_dgetZ hu1 (pv 1) (pv 4) (fun _ _ => rfl))) (blkOk_by (N := ["_law_world_here", "_law_pasts", "_law_host", "_law_seen", "_law_message", "_law_earlier"]) (sc := defScope s_law_causal) (by decide +kernel)) (fun _ _ _ _ _ => (pg_name (i := 5) sc_law_causal.nd rfl (Or.inl rfl))) (fun _ _ _ _ _ => pts_nil) (fun _ _ _ _ _ => (pe_cmpR (show OpR _ (compareOp .In) (rInD K) from op_inD hu65) (pv 5) (pv 3) rfl))) pa_nil)))))))
 (pss_one (ps_ret pe_bl))
 pss_nil)
 (pss_one (ps_expr (pe_bm PySem.F.plainAttrs_list PySem.F.slot_list_append PySem.F.type_list_append mt_append (pv 3) (pa_cons (pv 4) pa_nil))))))))))
 (pss_one (ps_ret pe_bl))), ?_⟩
    have sw := sim.w
    refine ⟨W.hD, _, sw.h, True.intro, fun od => ?_⟩
    have k0 := sw.lockH od
    have lck : (upd H W.hD (.frz od (.dK (nkv g.hs W.ha)))) W.hD = some (.frz od (.dK (nkv g.hs W.ha))) := upd_same
    have p0 := ps.keep k0 (by simp) (by simp)
    have h0 : ∀ x ∈ g.hs, Hw K C (upd H W.hD (.frz od (.dK (nkv g.hs W.ha)))) τ (W.ha x) x (stOf g x) := fun x hx => (sw.hw x hx).keep k0 (by simp)
    have nDh : W.D ≠ W.hD := fun z => by
      have := sw.td
      rw [z, sw.th] at this
      cases this
    have gH0 : DGet (upd H W.hD (.frz od (.dK (nkv g.hs W.ha)))) W.D (.str "hosts") (some (.ref W.hD)) := DGet.k (k := .inr "hosts") ((upd_ne nDh).trans sw.d)
    have fin : ∀ H', Same (upd H W.hD (.frz od (.dK (nkv g.hs W.ha)))) H' → Same H (upd H' W.hD (.dK (nkv g.hs W.ha))) := fun H' s => unlock (od := od) sw.h s
    generalize upd H W.hD (.frz od (.dK (nkv g.hs W.ha))) = H0 at *
    refine ⟨_, rfl, W.D, _, rfl, gH0, W.hD, od, _, rfl, lck, ?_⟩
    refine for_it walk_values (fun i σ H' => ∃ a2 a3 a4, σ = [some (.ref W.D), some (.ref PD), a2, a3, a4, none] ∧ Same H0 H') ⟨none, none, none, rfl, Same.refl H0⟩ (fun i σ H' _ hP => ?_) ?_ ?_
    · obtain ⟨_, _, _, _, s⟩ := hP
      exact s _ _ lck
    · rintro i v σ HA H1 hi ⟨a2, a3, a4, rfl, s1⟩ ⟨rfl, k, hk⟩
      obtain ⟨x, hx, rfl, rfl⟩ := nkv_at hk
      have hx := List.mem_of_getElem? hx
      refine ⟨Nat.zero_le _, fun S nS => ?_⟩
      have s2 := same_upd (o := .lst []) nS
      have g2 : (upd H1 S (.lst [])) S = some (.lst []) := upd_same
      generalize upd H1 S (.lst []) = H2 at s2 g2 ⊢
      have s02 := s1.trans s2
      obtain ⟨ad, hw⟩ := h0 x hx
      have hw2 := hw.hs.same s02
      refine ⟨_, rfl, W.ha x, ad.dx, _, rfl, hw2.at_, (by rfl), W.ha x, stOf g x, ad, rfl, hw2, fun H3 L us s3 nL eL dL => ?_⟩
      have g3 := s3 _ _ g2
      have dM : Dns K (fz H3) us ((g.lg x).map Xp.prD) := dL
      have pr3 := dns_prs dM
      refine ⟨L, rfl, ⟨_, SqL.of eL⟩, ?_⟩
      have nLS : L ≠ S := fun z => by rw [z, g2] at nL; cases nL
      have lus := Dns.len dM
      rw [List.length_map] at lus
      refine for_it (walk_list (K := K) (a := L) (xs := us)) (fun j σ H' => ∃ a4, σ = [some (.ref W.D), some (.ref PD), some (.ref (W.ha x)), some (.ref S), a4, none] ∧ (∀ y o, H3 y = some o → y ≠ S → H' y = some o) ∧ H' S = some (.lst (us.take j)))
        ⟨a4, rfl, fun y o e _ => e, g3⟩ (fun j σ H' _ hP => ?_) ?_ ?_
      · obtain ⟨_, _, k, _⟩ := hP
        exact SqL.of (k _ _ eL nLS)
      · rintro j v σ HB H4 hj ⟨b4, rfl, fr4, e4⟩ ⟨rfl, hv⟩
        obtain ⟨p, hp, prv⟩ := pr3.get hv
        have jl : j < (g.lg x).length := (List.getElem?_eq_some_iff.mp hp).1
        have mem : p ∈ g.ws := sim.s.fl.sub x p (List.mem_of_getElem? hp)
        have ft : ∀ {b ob u}, H3 b = some (.frz ob u) → b ≠ S := fun e z => by rw [z, g3] at e; cases e
        have fk4 : FzK H3 H4 := fun b ob u e => fr4 b _ e (ft e)
        have up : ∀ {H5 : Hp}, FzK H3 H5 → Dns K H5 us ((g.lg x).map Xp.prD) := fun k => (dM.same (fz_keep k)).same (fz_same _)
        have seen : ∀ {H5 : Hp}, FzK H3 H5 → DpAll K H5 (us.take j) (((g.lg x).take j).map Xp.prD) := fun {H5} k => by
          have z := dns_take j (up k)
          rw [← List.map_take] at z
          exact prs_dpa (dns_prs z)
        have okm : ∀ q ∈ (g.lg x).take j, Okp q := fun q hq => sim.s.okp (sim.s.fl.sub x q (List.mem_of_mem_take hq))
        have pv4 : Xp.Pr H4 v p := by
          obtain ⟨t, e, o, z, c⟩ := prv
          exact ⟨t, e, o, fk4 _ _ _ (of_fz z).1, c⟩
        have spl : g.lg x = (g.lg x).take j ++ p :: (g.lg x).drop (j + 1) := by
          have := List.drop_eq_getElem_cons jl
          rw [(List.getElem?_eq_some_iff.mp hp).2] at this
          rw [← this, List.take_append_drop]
        have nin : p ∉ (g.lg x).take j := fun z => by
          have nd := sim.s.fl.nd x
          rw [spl] at nd
          exact (List.nodup_append.mp nd).2.2 p z p List.mem_cons_self rfl
        refine ⟨_, rfl, _, rfl, Xp.prD p, _, dp_pr pv4, .lst (SqL.of e4) (seen fk4), sh_okp (sim.s.okp mem), sh_okps okm, _, rfl, ?_⟩
        rw [any_eqv, decide_eq_false nin]
        refine iteF ?_
        have s04 : Same H0 H4 := fun y o e => fr4 _ _ (s3 _ _ (s02 _ _ e)) fun z => by rw [z] at e; rw [same_no s1 nS] at e; cases e
        have p4 := p0.keep (Kt.same (t := fun _ => False) s04) (fun z => z) (fun _ z => z)
        obtain ⟨tp, rfl, ztp⟩ := pv4
        obtain ⟨_, uq, eq, dq⟩ := p4.p p mem
        have vp := ckv_val g.ws pa p
        rw [if_pos mem] at vp
        refine ⟨_, rfl, _, rfl, PD, tp, _, kq p, _, rfl, rfl, p4.d, ztp, vp, pa p, rfl, ⟨_, SqL.of eq⟩, fun D nD => ?_⟩
        have luq := Dns.len dq
        rw [List.length_map] at luq
        have few : uq.length ≤ 12 := by
          rw [luq]
          exact ps.l p mem
        refine lc_it (walk_list (K := K) (a := pa p) (xs := uq)) (fun i H' => Same H4 H' ∧ H' D = some (.lst ((List.replicate i true).map V.bl))) ⟨same_upd nD, upd_same⟩ (fun i H' _ h => SqL.of (h.1 _ _ eq)) ?_ ?_
        · rintro i y H5 H6 hi ⟨s5, hL⟩ ⟨rfl, hy⟩
          obtain ⟨q, hq, dy⟩ := Dns.get dq hy
          rw [List.getElem?_map] at hq
          obtain ⟨e, he, rfl⟩ := Option.map_eq_some_iff.mp hq
          have he := List.mem_of_getElem? he
          have ein := sim.s.fl.cau x _ p _ spl e he
          have fk5 : FzK H3 H6 := fk4.trans (FzK.of s5)
          have pye : Dp K H6 y (Xp.prD e) := by
            have z := dns_prs (K := K) (H := H6) (us := [y]) (ls := [e]) (.cons ((dy.same (fz_same H4)).same s5) .nil)
            have z2 := prs_dpa (K := K) z
            cases z2 with
            | cons a _ => exact a
          refine ⟨rfl, ?_⟩
          dsimp only [tYes]
          refine iteT ⟨_, rfl, _, rfl, Xp.prD e, _, pye, .lst (SqL.of (s5 _ _ e4)) (seen fk5), sh_okp (okm e ein), sh_okps okm, ?_⟩
          rw [any_eqv, decide_eq_true ein]
          refine ⟨_, hL, ?_, same_upd2 s5 nD, ?_⟩
          · rw [List.length_map, List.length_replicate]
            exact small200 (by omega)
          · rw [upd_same, List.replicate_succ', List.map_append]
            rfl
        · rintro H5 ⟨s5, hL⟩
          refine ⟨D, _, rfl, SqL.of hL, ?_⟩
          rw [show (List.replicate uq.length true).all id = true from List.all_eq_true.mpr fun b hb => by rw [(List.mem_replicate.mp hb).2]; rfl]
          refine ⟨_, rfl, iteF ?_⟩
          have e5 := s5 _ _ e4
          refine ⟨_, rfl, .inl ⟨rfl, _, SqL.of e5⟩, _, rfl, S, _, _, rfl, rfl, e5, ?_, ?_⟩
          · rw [List.length_take]
            have := sim.s.lgl x
            exact small200 (by omega)
          · refine ⟨_, rfl, fun y o e n => (upd_ne n).trans (s5 _ _ (fr4 y o e n)), ?_⟩
            rw [upd_same, List.take_add_one, hv]
            rfl
      · rintro σ H' ⟨b4, rfl, fr4, _⟩
        exact ⟨_, _, _, rfl, fun y o e => fr4 _ _ (s3 _ _ (s02 _ _ e)) fun z => by rw [z] at e; rw [same_no s1 nS] at e; cases e⟩
    · rintro σ H' ⟨a2, a3, a4, rfl, s⟩
      exact ⟨s _ _ lck, q _ (fin _ s)⟩
end
end My

namespace My
open PySem PySem.Spec PyProof.Rows L2 Gy Xl Xs Xt Xo Xp Xu Xd
section
variable {P : Program} {w : World} {K : PySem.W.Frag} {mg : Str → Option Value} {base : Heap} {C CN CT : Addr} {H H1 H2 : Hp} {τ τ1 : Tg} {W : WA} {hs : List Str} {ks : List (Str × Str)}
def spTo (K : PySem.W.Frag) (C : Addr) : Sp := fun vs H Q _ => ∃ (τ : Tg) (W : WA) (ks : List (Str × Str)) (g : GS), vs = [.ref W.D] ∧ Sim K C H τ W ks g ∧
  ∀ H' L ys qs, Same H H' → H' L = some (.lst ys) → Xp.Prs H' ys qs → qs.Perm (shownL g.hs g.ps) → qs.Pairwise leQ → Q (.ref L) H'
theorem shownL_take {hs : List Str} {ps : List Lnk} {i : Nat} {x : Str} (h : hs[i]? = some x) : shownL (hs.take (i + 1)) ps = shownL (hs.take i) ps ++ (srt (nbr ps x)).map fun y => spr (x, y) := by
  unfold shownL
  rw [List.take_add_one, h, List.map_append, List.flatten_append]
  simp
theorem shownL_len {g : GS} (s : Sml g) (i : Nat) : (shownL (g.hs.take i) g.ps).length ≤ i * 11 := by
  induction i with
  | zero =>
    rw [List.take_zero]
    exact Nat.le_refl _
  | succ i ih =>
    cases h : g.hs[i]? with
    | none =>
      have : g.hs.take (i + 1) = g.hs.take i := by rw [List.take_add_one, h]; simp
      rw [this]
      omega
    | some x =>
      rw [shownL_take h, List.length_append, List.length_map]
      have := s.lkl x
      omega
theorem prs_appX {us us' : List V} {ls ls' : List (Str × Str)} (h : Xp.Prs H us ls) (h' : Xp.Prs H us' ls') : Xp.Prs H (us ++ us') (ls ++ ls') := by
  induction h with
  | nil => exact h'
  | cons h t ih => exact .cons h ih
theorem prs_unl {d : Addr} {od : Obj} {kv : List (L2.Key × V)} {u : HO} {us : List V} {ls : List (Str × Str)} (h : Xp.Prs H us ls) (e : H d = some (.frz od (.dK kv))) : Xp.Prs (upd H d u) us ls := by
  induction h with
  | nil => exact .nil
  | cons h t ih =>
    obtain ⟨a, rfl, o, z, c⟩ := h
    refine .cons ⟨a, rfl, o, ?_, c⟩ ih
    rw [upd_ne fun w => ?_]
    · exact z
    · rw [w, e] at z
      cases z
theorem HwA.fr {S h : Addr} {x : Str} {st : HS} {ad : HA} {v0 : List V} (w : HwA K C H τ h x st ad) (tS : τ S = none) (eS : H S = some (.lst v0)) (fr : ∀ y o, H y = some o → y ≠ S → H1 y = some o) : Hst K C H1 h st ad := by
  obtain ⟨hx, t0, tt⟩ := w
  obtain ⟨v1, a1, b1⟩ := hx.lg
  obtain ⟨v2, a2, b2⟩ := hx.qu
  obtain ⟨v3, a3, b3⟩ := hx.an
  have f : FzK H H1 := fun b o u e => fr b _ e fun z => by rw [z, eS] at e; cases e
  have f := fz_keep f
  have ne : ∀ {a : Addr} {u : Tag}, τ a = some u → a ≠ S := fun {a u} e z => by rw [z, tS] at e; cases e
  exact ⟨fr _ _ hx.at_ (ne t0), fr _ _ hx.lk (ne (tt ad.Lk (by simp))), ⟨v1, fr _ _ a1 (ne (tt ad.Ll (by simp))), b1.same f⟩, hx.jn.same f, ⟨v2, fr _ _ a2 (ne (tt ad.Lq (by simp))), b2.same f⟩, ⟨v3, fr _ _ a3 (ne (tt ad.La (by simp))), b3.same f⟩, hx.sep⟩
theorem prs_sq {S : Addr} {us : List V} {ls : List (Str × Str)} {o : HO} {xs : List V} (h : Xp.Prs H us ls) (hs : H S = some (.lst xs)) : Xp.Prs (upd H S o) us ls :=
  pr_fzk h ((FzK.refl H).upd hs (fun _ _ z => nomatch z))
theorem ok_to {f : Addr} {fd : FuncData} (F : Fun K "_law_tree_of" "_law_tree_of" s_law_tree_of f fd) (Y : Bn mg) (T : Ch K C) (M_links : Fm P w K mg base CX0 1 C "links" ["self"] (spLst K C fun st => st.lk.map PyData.str)) : FnOk P w K mg base CX0 2 f fd ["_law_world_here"] (spTo K C) := by
  obtain ⟨_, _, MM_links, MB_links, MF_links⟩ := M_links.ex
  refine F.ok sc_law_tree_of (fun vs H Q E h => ?_) (fun cdv A outer s H vs Q E hr h => ?_)
  · obtain ⟨τ, W, ks, g, rfl, _⟩ := h
    rfl
  · obtain ⟨τ, W, ks, g, rfl, sim, q⟩ := h
    have hu1 := hu_of hr
    refine ⟨_, (pss_cons (ps_set (i := 1) sc_law_tree_of.nd rfl (.inl rfl) (pe_lst pa_nil))
 (pss_cons (ps_lock (ps_for PassesOwn.never rfl (pi_items (pe_dget hu1 (pv 0) pe_str (fun _ _ => rfl))) (pg_tup (by rfl) (pgs_cons (pg_name (i := 2) sc_law_tree_of.nd rfl (Or.inr rfl)) (pgs_cons (pg_name (i := 3) sc_law_tree_of.nd rfl (Or.inl rfl)) pgs_nil)))
 (pss_one (ps_expr (pe_bm PySem.F.plainAttrs_list PySem.F.slot_list_extend PySem.F.type_list_extend mt_extend (pv 1) (pa_cons (pe_lc (own := [("_law_other", 4)]) (g := gName 4) (tt := tYes) rfl sc_law_tree_of.nd (pi_list (pe_meth0 (pv 3) T.cl MM_links MF_links (hr.mono (by decide)) MB_links .nil pass0)) (blkOk_by (N := ["_law_world_here", "_law_found", "_law_name_here", "_law_host", "_law_other"]) (sc := defScope s_law_tree_of) (by decide +kernel)) (fun _ _ _ _ _ => (pg_name (i := 4) sc_law_tree_of.nd rfl (Or.inl rfl))) (fun _ _ _ _ _ => pts_nil) (fun _ _ _ _ _ => (pe_callTy (show CallR _ (.type "tuple") (rTupOf K) from call_tupOf) (by rfl) Y.tuple (by decide +kernel) (pa_cons (pe_callB (show CallR _ (.builtin "sorted") (rSortX K) from cr_sortX) (by rfl) Y.sorted (by decide +kernel) (pa_cons (pe_lst (pa_cons (pv 2) (pa_cons (pv 4) pa_nil))) pa_nil)) pa_nil)))) pa_nil))))))
 (pss_one (ps_ret (pe_callB cr_sortQ (by rfl) Y.sorted (by decide +kernel) (pa_cons (pv 1) pa_nil)))))), ?_⟩
    have sw := sim.w
    refine ⟨Nat.zero_le _, fun S nS => ?_⟩
    have s1 := same_upd (o := .lst []) nS
    have g1 : (upd H S (.lst [])) S = some (.lst []) := upd_same
    generalize upd H S (.lst []) = H1 at s1 g1 ⊢
    have w1 := sw.same s1
    refine ⟨W.hD, _, w1.h, True.intro, fun od => ?_⟩
    have k0 := w1.lockH od
    have lck : (upd H1 W.hD (.frz od (.dK (nkv g.hs W.ha)))) W.hD = some (.frz od (.dK (nkv g.hs W.ha))) := upd_same
    have h0 : ∀ x ∈ g.hs, Hw K C (upd H1 W.hD (.frz od (.dK (nkv g.hs W.ha)))) τ (W.ha x) x (stOf g x) := fun x hx => (w1.hw x hx).keep k0 (by simp)
    have nDh : W.D ≠ W.hD := fun z => by
      have := w1.td
      rw [z, w1.th] at this
      cases this
    have nSh : S ≠ W.hD := fun z => by rw [z, sw.h] at nS; cases nS
    have gH0 : DGet (upd H1 W.hD (.frz od (.dK (nkv g.hs W.ha)))) W.D (.str "hosts") (some (.ref W.hD)) := DGet.k (k := .inr "hosts") ((upd_ne nDh).trans w1.d)
    have gS : (upd H1 W.hD (.frz od (.dK (nkv g.hs W.ha)))) S = some (.lst []) := (upd_ne nSh).trans g1
    have fin : ∀ {H'}, (∀ y o, (upd H1 W.hD (.frz od (.dK (nkv g.hs W.ha)))) y = some o → y ≠ S → H' y = some o) → Same H (upd H' W.hD (.dK (nkv g.hs W.ha))) := fun {H'} fr b o e => by
      by_cases c : b = W.hD
      · subst c
        rw [sw.h] at e
        cases e
        exact upd_same
      · rw [upd_ne c]
        exact fr b o (by rw [upd_ne c]; exact s1 _ _ e) fun z => by rw [z, nS] at e; cases e
    generalize upd H1 W.hD (.frz od (.dK (nkv g.hs W.ha))) = H0 at *
    refine ⟨_, rfl, W.D, _, rfl, gH0, W.hD, od, _, rfl, lck, ?_⟩
    refine for_it walk_items (fun i σ H' => ∃ a2 a3, σ = [some (.ref W.D), some (.ref S), a2, a3, none] ∧ (∀ y o, H0 y = some o → y ≠ S → H' y = some o) ∧ ∃ vs, H' S = some (.lst vs) ∧ Xp.Prs H' vs (shownL (g.hs.take i) g.ps))
      ⟨none, none, rfl, fun _ _ e _ => e, [], gS, .nil⟩ (fun i σ H' _ hP => ?_) ?_ ?_
    · obtain ⟨_, _, _, fr, _⟩ := hP
      exact fr _ _ lck (fun z => nSh z.symm)
    · rintro i v σ H2 H3 hi ⟨a2, a3, rfl, fr, vs, eS, pr⟩ ⟨T1, kx, vx, rfl, nT, rfl, hk1, hk2⟩
      obtain ⟨x, hx, e1, e2⟩ : ∃ x, g.hs[i]? = some x ∧ kx = .str x ∧ vx = .ref (W.ha x) := by
        dsimp only at hk1 hk2
        cases h : (nkv g.hs W.ha)[i]? with
        | none =>
          rw [h] at hk1
          cases hk1
        | some kv =>
          obtain ⟨x, hx, e1, e2⟩ := nkv_at (k := kv.1) (v := kv.2) h
          rw [h] at hk1 hk2
          refine ⟨x, hx, ?_, ?_⟩
          · injection hk1 with hk1
            rw [← hk1]
            show kV kv.1 = _
            rw [e1]
            rfl
          · injection hk2 with hk2
            rw [← hk2]
            exact e2
      subst e1 e2
      have hxm := List.mem_of_getElem? hx
      have s3 := same_upd (o := .tup [V.str x, V.ref (W.ha x)]) nT
      have g3 : (upd H2 T1 (.tup [V.str x, V.ref (W.ha x)])) T1 = some (.tup [V.str x, V.ref (W.ha x)]) := upd_same
      generalize upd H2 T1 (.tup [V.str x, V.ref (W.ha x)]) = H3 at s3 g3 ⊢
      have eS3 := s3 _ _ eS
      have tS : τ S = none := sw.new nS
      obtain ⟨ad, hw⟩ := h0 x hxm
      have hw2 : Hst K C H2 (W.ha x) (stOf g x) ad := hw.fr tS gS fr
      have hw3 := hw2.same s3
      refine ⟨T1, _, rfl, .inl (.inl g3), rfl, _, _, rfl, _, _, rfl, rfl, ?_⟩
      refine ⟨_, rfl, .inl ⟨rfl, _, SqL.of eS3⟩, ?_⟩
      refine ⟨_, rfl, W.ha x, ad.dx, _, rfl, hw3.at_, (by rfl), W.ha x, stOf g x, ad, rfl, hw3, fun H4 L us s4 nL eL dL => ?_⟩
      refine ⟨L, rfl, ⟨_, SqL.of eL⟩, fun D nD => ?_⟩
      have lus := Dns.len dL
      have lk11 : (stOf g x).lk.length ≤ 11 := sim.s.lkl x
      rw [List.length_map] at lus
      have eS4 := s4 _ _ eS3
      refine lc_it (walk_list (K := K) (a := L) (xs := us)) (fun j H' => Same H4 H' ∧ ∃ ws, H' D = some (.lst ws) ∧ Xp.Prs H' ws ((((stOf g x).lk.take j)).map fun y => spr (x, y))) ⟨same_upd nD, [], upd_same, .nil⟩ (fun j H' _ h => SqL.of (h.1 _ _ eL)) ?_ ?_
      · rintro j v H5 H6 hj ⟨s5, ws, hD, pw⟩ ⟨rfl, hv⟩
        obtain ⟨d, hd, dv⟩ := Dns.get dL hv
        rw [List.getElem?_map] at hd
        obtain ⟨y, hy, rfl⟩ := Option.map_eq_some_iff.mp hd
        cases dv
        refine ⟨rfl, ?_⟩
        dsimp only [tYes]
        refine iteT ⟨_, rfl, _, rfl, (by show 2 ≤ sizeLine; decide), fun l nl => ?_⟩
        have s7 := same_upd (o := .lst [V.str x, V.str y]) nl
        have g7 : (upd H6 l (.lst [V.str x, V.str y])) l = some (.lst [V.str x, V.str y]) := upd_same
        generalize upd H6 l (.lst [V.str x, V.str y]) = H7 at s7 g7 ⊢
        refine ⟨l, [x, y], rfl, .inl (SqL.of g7), (by show 2 < 64; decide), fun ys p pm so np => ?_⟩
        have s8 := same_upd (o := .lst (ys.map V.str)) np
        have g8 : (upd H7 p (.lst (ys.map V.str))) p = some (.lst (ys.map V.str)) := upd_same
        generalize upd H7 p (.lst (ys.map V.str)) = H8 at s8 g8 ⊢
        have ey : ys = [(spr (x, y)).1, (spr (x, y)).2] := (srt_of pm so).trans (spr_at (x, y))
        refine ⟨p, _, rfl, SqL.of g8, (by rw [ey]; show 2 ≤ 1000; decide), fun t o nt st zt => ?_⟩
        generalize upd H8 t o = H9 at st zt ⊢
        have s69 := (s7.trans s8).trans st
        have hD9 := s69 _ _ hD
        rw [ey] at zt
        refine ⟨_, hD9, ?_, ?_, _, upd_same, ?_⟩
        · rw [Xp.Prs.length pw, List.length_map, List.length_take]
          exact small200 (by omega)
        · exact fun b o e => by
            rw [upd_ne fun z => ?_]
            · exact s69 _ _ (s5 _ _ e)
            · rw [z, nD] at e
              cases e
        · rw [List.take_add_one, hy, List.map_append]
          exact prs_sq ((pr_same pw s69).snoc ⟨t, rfl, zt⟩) hD9
      · rintro H5 ⟨s5, ws, hD, pw⟩
        rw [lus, List.take_of_length_le (Nat.le_refl _)] at pw
        have eS5 := s5 _ _ eS4
        have nDS : D ≠ S := fun z => by rw [z, eS4] at nD; cases nD
        have pr5 := pr_same (pr_same (pr_same pr s3) s4) s5
        have vl : vs.length ≤ 200 := by
          rw [Xp.Prs.length pr]
          have := shownL_len sim.s i
          have il : i < (nkv g.hs W.ha).length := hi
          rw [nkv_len] at il
          have := sim.s.hl
          have h2 : i * 11 ≤ 10 * 11 := Nat.mul_le_mul_right _ (by omega)
          omega
        have wl : ws.length ≤ 11 := by
          rw [Xp.Prs.length pw, List.length_map]
          exact lk11
        refine ⟨S, D, _, _, rfl, rfl, eS5, hD, Nat.le_of_lt (small200 (by omega)), ?_⟩
        refine ⟨_, _, rfl, fun y o e n => (upd_ne n).trans (s5 _ _ (s4 _ _ (s3 _ _ (fr y o e n)))), _, upd_same, ?_⟩
        rw [shownL_take hx]
        exact prs_sq (prs_appX pr5 pw) eS5
    · rintro σ H' ⟨a2, a3, rfl, fr, vs, eS, pr⟩
      have ln : (nkv g.hs W.ha).length = g.hs.length := nkv_len _ _
      rw [ln, List.take_of_length_le (Nat.le_refl _)] at pr
      refine ⟨fr _ _ lck (fun z => nSh z.symm), ?_⟩
      have sF := fin fr
      have eF : H' W.hD = some (.frz od (.dK (nkv g.hs W.ha))) := fr _ _ lck (fun z => nSh z.symm)
      have prF : Xp.Prs (upd H' W.hD (.dK (nkv g.hs W.ha))) vs (shownL g.hs g.ps) := by
        exact prs_unl pr eF
      refine ⟨_, rfl, S, vs, _, rfl, SqL.of ((upd_ne nSh).trans eS), prF, fun ys qs p pm pw kz nL => ?_⟩
      exact q _ p ys qs (sF.trans (same_upd nL)) upd_same (pr_same kz (same_upd nL)) pm pw
end
end My

namespace My
open PySem PySem.Spec PyProof.Rows L2 Gy Xl Xs Xt Xo Xp Xu Xd
section
variable {P : Program} {w : World} {K : PySem.W.Frag} {mg : Str → Option Value} {base : Heap} {C CN CT : Addr} {H H1 H2 : Hp} {τ τ1 : Tg} {W : WA} {hs : List Str} {ks : List (Str × Str)}
def spEr (K : PySem.W.Frag) (C : Addr) : Sp := fun vs H Q _ => ∃ (τ : Tg) (W : WA) (ks : List (Str × Str)) (g : GS) (LW LP : Addr) (uw : List V), vs = [.ref W.D, .ref LW, .ref LP] ∧ Sim K C H τ W ks g ∧ (∀ k, g.fl k = []) ∧ H LW = some (.lst uw) ∧ Kps H uw g.ws ∧ Prl H τ LP g.ps ∧ ∀ H', Same H H' → Q (.bl true) H'
theorem kps_same {us : List V} {ls : List (Str × Str)} (h : Kps H us ls) (s : ∀ t o, H t = some (.tup o) → H1 t = some (.tup o)) : Kps H1 us ls := by
  unfold Kps at h ⊢
  induction h with
  | nil => exact .nil
  | cons h t ih =>
    obtain ⟨a, rfl, z⟩ := h
    exact .cons ⟨a, rfl, s _ _ z⟩ ih
theorem ok_er {f : Addr} {fd : FuncData} (F : Fun K "_law_end_right" "_law_end_right" s_law_end_right f fd) (Y : Bn mg) (T : Ch K C) (M_log : Fm P w K mg base CX0 1 C "log" ["self"] (spLst K C fun st => st.lg)) (M_phase : Fm P w K mg base CX0 1 C "phase" ["self"] (spGet K C fun st _ => .str st.sg))
    (M_queue : Fm P w K mg base CX0 1 C "queue" ["self"] (spLst K C fun st => st.qu)) (G_law_tree_of : Fk P w K mg base CX0 2 "_law_tree_of" ["_law_world_here"] (spTo K C)) : FnOk P w K mg base CX0 3 f fd ["_law_world_here", "_law_words", "_law_pairs"] (spEr K C) := by
  obtain ⟨_, _, MM_log, MB_log, MF_log⟩ := M_log.ex
  obtain ⟨_, _, MM_phase, MB_phase, MF_phase⟩ := M_phase.ex
  obtain ⟨_, _, MM_queue, MB_queue, MF_queue⟩ := M_queue.ex
  refine F.ok sc_law_end_right (fun vs H Q E h => ?_) (fun cdv A outer s H vs Q E hr h => ?_)
  · obtain ⟨τ, W, ks, g, LW, LP, uw, rfl, _⟩ := h
    rfl
  · obtain ⟨τ, W, ks, g, LW, LP, uw, rfl, sim, emp, eLW, kw, prl, q⟩ := h
    have hu1 := hu_of hr
    have hu64 := hr.units
    refine ⟨_, (pss_cons (ps_lock (ps_for PassesOwn.never rfl (pi_values (pe_dget hu1 (pv 0) pe_str (fun _ _ => rfl))) (pg_name (i := 3) sc_law_end_right.nd rfl (Or.inl rfl))
 (pss_one (ps_if (PW.pt (pw_or (pt_cmpR (op_neD hu64) (pe_callB cr_sortQ (by rfl) Y.sorted (by decide +kernel) (pa_cons (pe_meth0 (pv 3) T.cl MM_log MF_log (hr.mono (by decide)) MB_log .nil pass0) pa_nil)) (pe_callB cr_sortK (by rfl) Y.sorted (by decide +kernel) (pa_cons (pv 1) pa_nil)) (nomark _)) (pw_or (pt_cmpR op_ne (pe_meth0 (pv 3) T.cl MM_phase MF_phase (hr.mono (by decide)) MB_phase .nil pass0) pe_str (nomark _)) (pw_or1 (pt_cmpR (op_neD hu64) (pe_meth0 (pv 3) T.cl MM_queue MF_queue (hr.mono (by decide)) MB_queue .nil pass0) (pe_lst pa_nil) (nomark _))))))
 (pss_one (ps_ret pe_bl))
 pss_nil))))
 (pss_one (ps_ret (pe_cmpR (op_eqD hu64) (pe_callF G_law_tree_of (hr.mono (by decide)) (by rfl) pass0 (pa_cons (pv 0) pa_nil)) (pe_callB cr_sortQ (by rfl) Y.sorted (by decide +kernel) (pa_cons (pe_op op_rep (pe_lc (own := [("_law_pair", 4)]) (g := gName 4) (tt := tYes) rfl sc_law_end_right.nd (pi_list (pv 2)) (blkOk_by (N := ["_law_world_here", "_law_words", "_law_pairs", "_law_host", "_law_pair"]) (sc := defScope s_law_end_right) (by decide +kernel)) (fun _ _ _ _ _ => (pg_name (i := 4) sc_law_end_right.nd rfl (Or.inl rfl))) (fun _ _ _ _ _ => pts_nil) (fun _ _ _ _ _ => (pe_callTy (show CallR _ (.type "tuple") (rTupOf K) from call_tupOf) (by rfl) Y.tuple (by decide +kernel) (pa_cons (pe_callB (show CallR _ (.builtin "sorted") (rSortX K) from cr_sortX) (by rfl) Y.sorted (by decide +kernel) (pa_cons (pv 4) pa_nil)) pa_nil)))) pe_int) pa_nil)) (nomark _))))), ?_⟩
    have sw := sim.w
    refine ⟨W.hD, _, sw.h, True.intro, fun od => ?_⟩
    have k0 := sw.lockH od
    have lck : (upd H W.hD (.frz od (.dK (nkv g.hs W.ha)))) W.hD = some (.frz od (.dK (nkv g.hs W.ha))) := upd_same
    have h0 : ∀ x ∈ g.hs, Hw K C (upd H W.hD (.frz od (.dK (nkv g.hs W.ha)))) τ (W.ha x) x (stOf g x) := fun x hx => (sw.hw x hx).keep k0 (by simp)
    have nDh : W.D ≠ W.hD := fun z => by
      have := sw.td
      rw [z, sw.th] at this
      cases this
    have nLWh : LW ≠ W.hD := fun z => by rw [z, sw.h] at eLW; cases eLW
    have gH0 : DGet (upd H W.hD (.frz od (.dK (nkv g.hs W.ha)))) W.D (.str "hosts") (some (.ref W.hD)) := DGet.k (k := .inr "hosts") ((upd_ne nDh).trans sw.d)
    have eLW0 : (upd H W.hD (.frz od (.dK (nkv g.hs W.ha)))) LW = some (.lst uw) := (upd_ne nLWh).trans eLW
    have kw0 : Kps (upd H W.hD (.frz od (.dK (nkv g.hs W.ha)))) uw g.ws := kps_same kw fun t o e => by
      rw [upd_ne fun z => ?_]
      · exact e
      · rw [z, sw.h] at e
        cases e
    have fin : ∀ H', Same (upd H W.hD (.frz od (.dK (nkv g.hs W.ha)))) H' → Same H (upd H' W.hD (.dK (nkv g.hs W.ha))) := fun H' s => unlock (od := od) sw.h s
    generalize upd H W.hD (.frz od (.dK (nkv g.hs W.ha))) = H0 at *
    refine ⟨_, rfl, W.D, _, rfl, gH0, W.hD, od, _, rfl, lck, ?_⟩
    refine for_it walk_values (fun i σ H' => ∃ a3, σ = [some (.ref W.D), some (.ref LW), some (.ref LP), a3, none] ∧ Same H0 H') ⟨none, rfl, Same.refl H0⟩ (fun i σ H' _ hP => ?_) ?_ ?_
    · obtain ⟨_, _, s⟩ := hP
      exact s _ _ lck
    · rintro i v σ HA H1 hi ⟨a3, rfl, s1⟩ ⟨rfl, k, hk⟩
      obtain ⟨x, hx, rfl, rfl⟩ := nkv_at hk
      have hx := List.mem_of_getElem? hx
      obtain ⟨ad, hw⟩ := h0 x hx
      have hw1 := hw.hs.same s1
      refine ⟨_, rfl, W.ha x, ad.dx, _, rfl, hw1.at_, (by rfl), W.ha x, stOf g x, ad, rfl, hw1, fun H2 L us s2 nL eL dL => ?_⟩
      have dM : Dns K H2 us ((g.lg x).map Xp.prD) := dL.same (fz_same H2)
      refine ⟨L, us, g.lg x, rfl, SqL.of eL, dns_prs dM, fun ys qs p pm pw kz np => ?_⟩
      have s3 := same_upd (o := .lst ys) np
      have e3 : (upd H2 p (.lst ys)) p = some (.lst ys) := upd_same
      have kz3 := pr_same kz s3
      generalize upd H2 p (.lst ys) = H3 at s3 e3 kz3 ⊢
      have s03 := (s1.trans s2).trans s3
      refine ⟨_, rfl, LW, uw, g.ws, rfl, SqL.of (s03 _ _ eLW0), kw0.same s03, fun ys2 qs2 p2 pm2 pw2 kz2 np2 => ?_⟩
      have s4 := same_upd (o := .lst ys2) np2
      have e4 : (upd H3 p2 (.lst ys2)) p2 = some (.lst ys2) := upd_same
      have kz4 := kz2.same s4
      generalize upd H3 p2 (.lst ys2) = H4 at s4 e4 kz4 ⊢
      have eq2 : qs2 = qs := sortQ_one (pm2.trans ((sim.s.fl.all emp hx).symm.trans pm.symm)) pw2 pw
      subst eq2
      have okq : ∀ p ∈ qs2, Okp p := fun p hp => sim.s.okp (pm2.mem_iff.mp hp)
      refine ⟨.list (qs2.map Xp.prD), .list (qs2.map Xp.prD), .lst (SqL.of (s4 _ _ e3)) (prs_dpa (pr_same kz3 s4)), .lst (SqL.of e4) (kps_dpa kz4), sh_okps okq, sh_okps okq, _, rfl, ?_⟩
      rw [eqv_prs]
      refine iteF ?_
      have s04 := s03.trans s4
      have hw4 := hw.hs.same s04
      refine ⟨_, rfl, W.ha x, ad.dx, _, rfl, hw4.at_, (by rfl), W.ha x, stOf g x, ad, rfl, hw4, rfl, _, rfl, ?_⟩
      refine ite2 (fun c => ?_) (fun _ => ?_)
      · have c2 : (!decide (V.str "free" = V.str "free")) = true := c
        rw [decide_eq_true rfl] at c2
        cases c2
      refine ⟨_, rfl, W.ha x, ad.dx, _, rfl, hw4.at_, (by rfl), W.ha x, stOf g x, ad, rfl, hw4, fun H5 L5 us5 s5 nL5 eL5 dL5 => ?_⟩
      have u0 : us5 = [] := by
        have := Dns.len dL5
        exact List.eq_nil_of_length_eq_zero this
      subst u0
      refine ⟨Nat.zero_le _, fun l nl => ?_⟩
      have s6 := same_upd (o := .lst []) nl
      have g6 : (upd H5 l (.lst [])) l = some (.lst []) := upd_same
      generalize upd H5 l (.lst []) = H6 at s6 g6 ⊢
      refine ⟨.list [], .list [], .lst (SqL.of (s6 _ _ eL5)) .nil, .lst (SqL.of g6) .nil, rfl, rfl, _, rfl, ?_⟩
      rw [show PyData.eqv (.list []) (.list []) = true from rfl]
      exact iteF ⟨_, rfl, (s04.trans s5).trans s6⟩
    · rintro σ H' ⟨a3, rfl, s⟩
      refine ⟨s _ _ lck, ?_⟩
      have sF := fin _ s
      generalize upd H' W.hD (.dK (nkv g.hs W.ha)) = H1 at sF ⊢
      have sim1 := sim.same sF
      refine ⟨_, rfl, τ, W, ks, g, rfl, sim1, fun H2 L ys qs s2 eL pr pm pw => ?_⟩
      obtain ⟨us, eLP, prp⟩ := prl.ex
      have sF2 := sF.trans s2
      have eLP2 := sF2 _ _ eLP
      have prp2 := pr_same prp sF2
      have psl : g.ps.length ≤ 10 := by
        have e : g.hs.length = g.ps.length + 1 := by show (hsT g.r g.ps).length = _; unfold hsT; rw [List.length_cons, List.length_map]
        have := sim.s.hl
        omega
      have usl := Xp.Prs.length prp
      refine ⟨_, rfl, LP, rfl, ⟨_, SqL.of eLP2⟩, fun D nD => ?_⟩
      refine lc_it (walk_list (K := K) (a := LP) (xs := us)) (fun j H' => Same H2 H' ∧ ∃ ws, H' D = some (.lst ws) ∧ Xp.Prs H' ws ((g.ps.take j).map spr)) ⟨same_upd nD, [], upd_same, .nil⟩ (fun j H' _ h => SqL.of (h.1 _ _ eLP2)) ?_ ?_
      · rintro j v H5 H6 hj ⟨s5, ws, hD, pws⟩ ⟨rfl, hv⟩
        obtain ⟨pp, hp, t0, rfl, zt0⟩ := Xp.Prs.get (pr_same prp2 s5) hv
        refine ⟨rfl, ?_⟩
        dsimp only [tYes]
        refine iteT ⟨_, rfl, t0, [pp.1, pp.2], rfl, .inr zt0.sq, (by show 2 < 64; decide), fun ys p pm so np => ?_⟩
        have s8 := same_upd (o := .lst (ys.map V.str)) np
        have g8 : (upd H6 p (.lst (ys.map V.str))) p = some (.lst (ys.map V.str)) := upd_same
        generalize upd H6 p (.lst (ys.map V.str)) = H8 at s8 g8 ⊢
        have ey : ys = [(spr pp).1, (spr pp).2] := (srt_of pm so).trans (spr_at pp)
        refine ⟨p, _, rfl, SqL.of g8, (by rw [ey]; show 2 ≤ 1000; decide), fun t o nt st zt => ?_⟩
        generalize upd H8 t o = H9 at st zt ⊢
        have s69 := s8.trans st
        have hD9 := s69 _ _ hD
        rw [ey] at zt
        refine ⟨_, hD9, ?_, ?_, _, upd_same, ?_⟩
        · rw [Xp.Prs.length pws, List.length_map, List.length_take]
          exact small200 (by omega)
        · exact fun b o e => by
            rw [upd_ne fun z => ?_]
            · exact s69 _ _ (s5 _ _ e)
            · rw [z, nD] at e
              cases e
        · rw [List.take_add_one, hp, List.map_append]
          exact prs_sq ((pr_same pws s69).snoc ⟨t, rfl, zt⟩) hD9
      · rintro H5 ⟨s5, ws, hD, pws⟩
        rw [usl, List.take_of_length_le (Nat.le_refl _)] at pws
        have wl := Xp.Prs.length pws
        rw [List.length_map] at wl
        refine ⟨D, 2, ws, rfl, rfl, hD, by decide, by decide, ?_, fun p np => ?_⟩
        · show ws.length * 2 ≤ sizeLine
          rw [sizeLine_eq]
          omega
        have s6 := same_upd (o := .lst (List.replicate (Int.toNat 2) ws).flatten) np
        have g6 : (upd H5 p (.lst (List.replicate (Int.toNat 2) ws).flatten)) p = some (.lst (ws ++ ws)) := by
          rw [upd_same]
          show some (HO.lst (ws ++ (ws ++ []))) = _
          rw [List.append_nil]
        generalize upd H5 p (.lst (List.replicate (Int.toNat 2) ws).flatten) = H6 at s6 g6 ⊢
        have pw6 := pr_same pws s6
        refine ⟨p, ws ++ ws, g.ps.map spr ++ g.ps.map spr, rfl, SqL.of g6, prs_appX pw6 pw6, fun ys2 qs2 p2 pm2 pw2 kz2 np2 => ?_⟩
        have s7 := same_upd (o := .lst ys2) np2
        have g7 : (upd H6 p2 (.lst ys2)) p2 = some (.lst ys2) := upd_same
        have kz7 := pr_same kz2 s7
        generalize upd H6 p2 (.lst ys2) = H7 at s7 g7 kz7 ⊢
        have s27 := (s5.trans s6).trans s7
        have eq2 : qs2 = qs := sortQ_one (pm2.trans ((shownL_perm sim.s.fl.gr).symm.trans pm.symm)) pw2 pw
        subst eq2
        have okq : ∀ p ∈ qs2, Okp p := fun p hp => by
          have hp2 := pm2.mem_iff.mp hp
          have : p ∈ g.ps.map spr := by
            rcases List.mem_append.mp hp2 with z | z <;> exact z
          obtain ⟨c, hc, rfl⟩ := List.mem_map.mp this
          have mm := sim.s.fl.gr.mem (show (c.1, c.2) ∈ g.ps from hc)
          have ok : ∀ y ∈ [c.1, c.2], PyData.strOk y = true := fun y hy => by
            simp only [List.mem_cons, List.not_mem_nil, or_false] at hy
            rcases hy with rfl | rfl
            · exact nm_ok (sim.s.nm _ mm.1)
            · exact nm_ok (sim.s.nm _ mm.2)
          exact ⟨ok _ spr_in.1, ok _ spr_in.2⟩
        refine ⟨.list (qs2.map Xp.prD), .list (qs2.map Xp.prD), .lst (SqL.of (s27 _ _ eL)) (prs_dpa (pr_same pr s27)), .lst (SqL.of g7) (prs_dpa kz7), sh_okps okq, sh_okps okq, ?_⟩
        rw [eqv_prs]
        exact q _ (sF2.trans s27)
end
end My

namespace My
open PySem PySem.Spec PyProof.Rows L2 Gy Xl Xs Xt Xo Xp Xu Xd
/-! ### a leaf joins -/
section
variable {P : Program} {w : World} {K : PySem.W.Frag} {mg : Str → Option Value} {base : Heap} {C CN CT : Addr} {H H1 H2 : Hp} {τ τ1 : Tg} {W : WA} {hs : List Str} {ks : List (Str × Str)} {fl : Str × Str → List PyData} {sh sm : Str → HS}
def spJd (K : PySem.W.Frag) (C : Addr) : Sp := fun vs H Q _ => ∃ (τ : Tg) (W : WA) (ks : List (Str × Str)) (g : GS) (r LP : Addr), vs = [.ref r, .ref W.D, .ref LP] ∧ Sim K C H τ W ks g ∧ Rng H r ∧ τ r = some .po ∧ Prl H τ LP g.ps ∧ g.hs.length < 11 ∧
  ∀ H' W' τ' l a, Kt Tj τ τ' H H' → W'.D = W.D → Sim K C H' τ' W' ks (g.join l a) → l ∉ g.hs → a ∈ g.hs → Rng H' r → τ' r = some .po → Prl H' τ' LP (g.ps ++ [(l, a)]) → Q (.bl true) H'
theorem ok_jd {f : Addr} {fd : FuncData} (F : Fun K "_law_joined" "_law_joined" s_law_joined f fd) (Y : Bn mg) (T : Ch K C) (MI : MkH P w K mg base C) (M_log : Fm P w K mg base CX0 1 C "log" ["self"] (spLst K C fun st => st.lg)) (M_add_link : Fm P w K mg base (L2.CX P w) 3 C "add_link" ["self", "other"] (spAddL K C CN CT))
    (G_law_name : Fk P w K mg base CX0 2 "_law_name" ["_law_pot_here", "_law_used"] spName) (G_law_choose : Fk P w K mg base CX0 2 "_law_choose" ["_law_pot_here", "_law_values"] spCh) (G_law_linked : Fk P w K mg base CX0 1 "_law_linked" ["_law_model", "_law_other"] (spLnk K fun xs o => srt (xs ++ [o])))
    (G_law_new : Fk P w K mg base CX0 1 "_law_new" ["_law_name_here", "_law_linked_here", "_law_logged"] (spNew K)) (G_law_agrees : Fg P w K mg base CX0 3 "_law_agrees" ["_law_host", "_law_model"] (spAgr K C)) : FnG P w K mg base CX0 4 f fd ["_law_pot_here", "_law_world_here", "_law_pairs"] (spJd K C) := by
  obtain ⟨_, _, MM_log, MB_log, MF_log⟩ := M_log.ex
  obtain ⟨_, _, MM_add_link, MB_add_link, MF_add_link⟩ := M_add_link.ex
  obtain ⟨fI, fdI, gI, MMk, KBI, FI⟩ := MI.ex
  have gT := MI.gm
  refine fun_g0 F sc_law_joined (fun {vs H Q E} h => ?_) (fun cdv A outer s H vs Q E gd hr h => ?_)
  · obtain ⟨τ, W, ks, g, r, LP, rfl, _⟩ := h
    rfl
  · obtain ⟨τ, W, ks, g, r, LP, rfl, sim, R, tr, prl, h10, q⟩ := h
    have hu1 := hu_of hr
    refine ⟨_, (pss_cons (ps_par (i := 3) (j := 4) (by rfl) sc_law_joined.nd rfl rfl (by decide) rfl rfl (pa_cons (pe_callF G_law_name (hr.mono (by decide)) (by rfl) pass0 (pa_cons (pv 0) (pa_cons (pe_callB (call_sortedD rfl) (by rfl) Y.sorted (by decide +kernel) (pa_cons (pe_dget hu1 (pv 1) pe_str (fun _ _ => rfl)) pa_nil)) pa_nil))) (pa_cons (pe_callF G_law_choose (hr.mono (by decide)) (by rfl) pass0 (pa_cons (pv 0) (pa_cons (pe_callB (call_sortedD rfl) (by rfl) Y.sorted (by decide +kernel) (pa_cons (pe_dget hu1 (pv 1) pe_str (fun _ _ => rfl)) pa_nil)) pa_nil))) pa_nil)) (by rfl))
 (pss_cons (ps_par (i := 5) (j := 6) (by rfl) sc_law_joined.nd rfl rfl (by decide) rfl rfl (pa_cons (pe_dget hu1 (pe_dget hu1 (pv 1) pe_str (fun _ _ => rfl)) (pv 4) (fun _ _ => rfl)) (pa_cons (pe_dget hu1 (pe_dget hu1 (pv 1) pe_str (fun _ _ => rfl)) (pv 4) (fun _ _ => rfl)) pa_nil)) (by rfl))
 (pss_cons (ps_set (i := 7) sc_law_joined.nd rfl (.inl rfl) (pe_meth (E := fun _ _ _ => False) (pv 5) T.cl MM_add_link MF_add_link (hr.mono (by decide)) MB_add_link .nil passN (pa_cons (pv 3) pa_nil)))
 (pss_cons (ps_expr (pe_callF G_law_linked (hr.mono (by decide)) (by rfl) pass0 (pa_cons (pv 6) (pa_cons (pv 3) pa_nil))))
 (pss_cons (ps_dput hu1 (pe_dget hu1 (pv 1) pe_str (fun _ _ => rfl)) (pv 3) (pe_makeK (E := fun _ _ _ => False) (n := 1) MMk FI (hr.mono (by decide)) (by rfl) gT KBI pass0 (pa_cons (pv 3) pa_nil) (pk_cons (pe_lst (pa_cons (pv 4) pa_nil)) (pk_cons (pe_meth0 (pv 5) T.cl MM_log MF_log (hr.mono (by decide)) MB_log .nil pass0) pk_nil))) rfl)
 (pss_cons (ps_dput hu1 (pe_dget hu1 (pv 1) pe_str (fun _ _ => rfl)) (pv 3) (pe_callF G_law_new (hr.mono (by decide)) (by rfl) pass0 (pa_cons (pv 3) (pa_cons (pe_lst (pa_cons (pv 4) pa_nil)) (pa_cons (pe_dget hu1 (pv 6) pe_str (fun _ _ => rfl)) pa_nil)))) rfl)
 (pss_cons (ps_expr (pe_bm PySem.F.plainAttrs_list PySem.F.slot_list_append PySem.F.type_list_append mt_append (pv 2) (pa_cons (pe_tupZ (pa_cons (pv 3) (pa_cons (pv 4) pa_nil))) pa_nil)))
 (pss_one (ps_ret (pe_and (pe_cmpR op_isN (pv 7) pe_non (nomark _)) (pe_and (pe_callFg (E := E0) G_law_agrees gd (hr.mono (by decide)) (by rfl) pass0 (pa_cons (pv 5) (pa_cons (pv 6) pa_nil))) (pe_one (pe_callFg (E := E0) G_law_agrees gd (hr.mono (by decide)) (by rfl) pass0 (pa_cons (pe_dget hu1 (pe_dget hu1 (pv 1) pe_str (fun _ _ => rfl)) (pv 3) (fun _ _ => rfl)) (pa_cons (pe_dget hu1 (pe_dget hu1 (pv 1) pe_str (fun _ _ => rfl)) (pv 3) (fun _ _ => rfl)) pa_nil))))))))))))))), ?_⟩
    have sw := sim.w
    have h11 := sim.s.hl
    -- a name
    refine ⟨_, rfl, _, rfl, W.D, _, rfl, sw.gH, W.hD, _, g.hs, rfl, .inl sw.h, nkv_keys _ _, by omega, fun ys p pm so np => ?_⟩
    have s1 := same_upd (o := .lst (ys.map V.str)) np
    have e1 : (upd H p (.lst (ys.map V.str))) p = some (.lst (ys.map V.str)) := upd_same
    generalize upd H p (.lst (ys.map V.str)) = H1 at s1 e1 ⊢
    refine ⟨r, p, ys, rfl, R.same s1, R.ne np, e1, by rw [pm.length_eq]; omega, fun x hx => sim.s.nm x (pm.mem_iff.mp hx), fun H2 l b2 R2 nl ol => ?_⟩
    have ol : l ∉ g.hs := fun z => ol (pm.mem_iff.mpr z)
    have k2 : Kt (· = .po) τ τ H H2 := (Kt.same s1).trans (Kt.but b2 (R.same s1) R2 tr)
    have sim2 := sim.po k2
    -- a host
    refine ⟨_, rfl, _, rfl, W.D, _, rfl, sim2.w.gH, W.hD, _, g.hs, rfl, .inl sim2.w.h, nkv_keys _ _, by omega, fun ys2 p2 pm2 so2 np2 => ?_⟩
    have s3 := same_upd (o := .lst (ys2.map V.str)) np2
    have e3 : (upd H2 p2 (.lst (ys2.map V.str))) p2 = some (.lst (ys2.map V.str)) := upd_same
    generalize upd H2 p2 (.lst (ys2.map V.str)) = H3 at s3 e3 ⊢
    have hpos : 0 < g.hs.length := Nat.succ_pos _
    refine ⟨r, p2, _, rfl, R2.same s3, R2.ne np2, e3, by rw [List.length_map, pm2.length_eq]; exact hpos, by rw [List.length_map, pm2.length_eq]; omega, fun H4 u b4 R4 hu => ?_⟩
    obtain ⟨a, ha, rfl⟩ := List.mem_map.mp hu
    have ha := pm2.mem_iff.mp ha
    have k4 : Kt (· = .po) τ τ H H4 := (k2.trans (Kt.same s3)).trans (Kt.but b4 (R2.same s3) R4 tr)
    have sim4 := sim.po k4
    have w4 := sim4.w
    have al : a ≠ l := fun z => ol (z ▸ ha)
    refine ⟨_, _, rfl, ?_⟩
    refine ⟨_, rfl, W.D, _, rfl, w4.gH, _, rfl, W.hD, _, rfl, w4.gh ha, _, rfl, W.D, _, rfl, w4.gM, _, rfl, W.mD, _, rfl, w4.gm ha, _, _, rfl, ?_⟩
    have lk11 := sim.s.lkl a
    have fa := sim.s.free ha
    obtain ⟨ad, hw⟩ := w4.hw a ha
    have nin : ¬ (l = (stOf g a).nm ∨ l ∈ (stOf g a).lk) := fun z => z.elim (fun e => al e.symm) fun m => ol (nbr_in sim.s.fl.gr (srt_mem.mp m))
    refine ⟨_, rfl, W.ha a, ad.dx, _, rfl, hw.hs.at_, (by rfl), _, rfl, W.ha a, .str l, stOf g a, ad, rfl, .str l (le200 (by have := nl.2.1; omega)), hw.hs, by show (srt (nbr g.ps a)).length < 60; omega, fun z => absurd ((nm_txt nl).symm.trans z) (by decide), fun o eo no => ?_⟩
    cases eo
    refine ⟨fun z => absurd z nin, fun _ H5 Lk ys5 off5 fk5 nLk5 hx5 pm5 so5 => ?_⟩
    have ey5 : ys5 = srt (nbr g.ps a ++ [l]) := (srt_of pm5 so5).trans (srt_congr (List.Perm.append_right _ (srt_perm _)))
    rw [ey5] at hx5
    obtain ⟨τ5, k5, hw5⟩ := hw.act (st' := { stOf g a with lk := srt (nbr g.ps a ++ [l]) }) (ad' := { ad with Lk := Lk }) ⟨off_offA off5 hx5, ⟨.inr nLk5, .inl rfl, .inl rfl, .inl rfl⟩, fk5, hx5⟩
    have w5 := w4.stepH k5 ⟨_, hw5⟩
    -- its model
    obtain ⟨am, mw⟩ := w5.mw a ha
    refine ⟨_, rfl, _, rfl, W.ma a, l, stOf g a, am, rfl, mw.hs, by show (srt (nbr g.ps a)).length < 60; omega, fun H6 D6 am6 => ?_⟩
    have e6 : srt ((stOf g a).lk ++ [l]) = srt (nbr g.ps a ++ [l]) := srt_congr (List.Perm.append_right _ (srt_perm _))
    dsimp only at am6
    rw [e6] at am6
    obtain ⟨τ6, k6, mw6⟩ := mw.act am6
    have w6 := w5.stepM k6 ⟨_, mw6⟩
    have hw6a := w6.hw a ha
    rw [if_pos rfl] at hw6a
    obtain ⟨ad6, hw6⟩ := hw6a
    have nDh6 : W.D ≠ W.hD := fun z => by
      have := w6.td
      rw [z, w6.th] at this
      cases this
    have nmh : W.mD ≠ W.hD := fun z => by
      have := w6.tm
      rw [z, w6.th] at this
      cases this
    -- the new host
    refine ⟨_, rfl, _, rfl, (by show 1 ≤ sizeLine; decide), fun ll nll => ?_⟩
    have s7 := same_upd (o := .lst [V.str a]) nll
    have e7 : (upd H6 ll (.lst [V.str a])) ll = some (.lst [V.str a]) := upd_same
    generalize upd H6 ll (.lst [V.str a]) = H7 at s7 e7 ⊢
    have hw7 := hw6.hs.same s7
    refine ⟨_, rfl, W.ha a, ad6.dx, _, rfl, hw7.at_, (by rfl), W.ha a, _, ad6, rfl, hw7, fun H8 Lg us8 s8 nLg eLg dLg => ?_⟩
    have e8 := s8 _ _ e7
    refine ⟨rfl, rfl, fun h dx nh ndx ne => ?_⟩
    have sR : Same H8 (upd (upd H8 dx (.own h)) h (.ins C dx [])) := fun b o e => by
      rw [upd_ne (ne_of_none e nh), upd_ne (ne_of_none e ndx)]
      exact e
    refine ⟨h, ll, Lg, dx, l, [a], us8, (g.lg a).map logM, rfl, upd_same, .inl (SqL.of (sR _ _ e8)), by show 1 < 64; decide, .inl (SqL.of (sR _ _ eLg)), dLg.same (fz_keep (FzK.of sR)), fun Hh ad8 ys8 off8 fk8 hx8 so8 nd8 mem8 n1 n2 n3 n4 => ⟨rfl, ?_⟩⟩
    have eys : ys8 = srt [a] := nd_srt so8 nd8 (List.nodup_cons.mpr ⟨(fun z => nomatch z), List.nodup_nil⟩) mem8
    rw [eys] at hx8
    have sh' := host_made nh ndx ne off8
    have s69 := (s7.trans s8).trans sh'
    have w9 := w6.same s69
    refine ⟨_, rfl, W.D, _, rfl, w9.gH, _, rfl, W.hD, _, rfl, DPut.k (k := .inr l) w9.h (by rw [nkv_len]; exact small200 (by omega)), ?_⟩
    have eD : (upd Hh W.hD (.dK (putK (nkv g.hs W.ha) (.inr l) (.ref h)))) W.D = some (.dK (wkv W)) := (upd_ne nDh6).trans w9.d
    have eMm : (upd Hh W.hD (.dK (putK (nkv g.hs W.ha) (.inr l) (.ref h)))) W.mD = some (.dK (nkv g.hs W.ma)) := (upd_ne nmh).trans w9.m
    have k9c : Kt (· = .dh) τ6 τ6 Hh (upd Hh W.hD (.dK (putK (nkv g.hs W.ha) (.inr l) (.ref h)))) := Kt.refl.updT fun o e => ⟨⟨_, w9.th, rfl⟩, fun _ _ z => by rw [w9.h] at e; injection e with e; rw [← e] at z; cases z⟩
    -- the new model
    refine ⟨_, rfl, _, rfl, (by show 1 ≤ sizeLine; decide), fun l2 nl2 => ?_⟩
    have s10 := same_upd (o := .lst [V.str a]) nl2
    have e10 : (upd (upd Hh W.hD (.dK (putK (nkv g.hs W.ha) (.inr l) (.ref h)))) l2 (.lst [V.str a])) l2 = some (.lst [V.str a]) := upd_same
    have mw9 := w9.mw a ha
    rw [if_pos rfl] at mw9
    obtain ⟨am9, mm9⟩ := mw9.keep (k9c.trans (Kt.same s10)) (by simp)
    obtain ⟨vl, el, dl⟩ := mm9.hs.lg
    refine ⟨_, rfl, W.ma a, _, rfl, DGet.k (k := .inr "log") mm9.hs.at_, ?_⟩
    refine ⟨l2, am9.Ll, l, [a], vl, (g.lg a).map logM, rfl, SqL.of e10, by show 1 < 64; decide, SqL.of el, ?_, dl, fun Hm m am' s11 nm2 mx q1 q2 q3 q4 => ?_⟩
    · have := Dns.len dl
      rw [this]
      exact fa.lg
    have s1011 := s10.trans s11
    have eD2 := s1011 _ _ eD
    have eM2 := s1011 _ _ eMm
    obtain ⟨τ', kk, wf⟩ := w6.grow ol s69 hx8 (fun b hb => by
      simp only [List.mem_cons, List.not_mem_nil, or_false] at hb
      rcases hb with rfl | rfl | rfl | rfl | rfl
      · exact same_no (s7.trans s8) nh
      · exact same_no (s7.trans s8) (upd2_no n1)
      · exact same_no (s7.trans s8) (upd2_no n2)
      · exact same_no (s7.trans s8) (upd2_no n3)
      · exact same_no (s7.trans s8) (upd2_no n4)) s1011 mx (fun b hb => by
      simp only [List.mem_cons, List.not_mem_nil, or_false] at hb
      rcases hb with rfl | rfl | rfl | rfl | rfl
      · exact same_no s10 nm2
      · exact same_no s10 q1
      · exact same_no s10 q2
      · exact same_no s10 q3
      · exact same_no s10 q4)
    refine ⟨_, rfl, W.D, _, rfl, DGet.k (k := .inr "models") eD2, _, rfl, W.mD, _, rfl, DPut.k (k := .inr l) eM2 (by rw [nkv_len]; exact small200 (by omega)), ?_⟩
    generalize upd Hm W.mD (.dK (putK (nkv g.hs W.ma) (.inr l) (.ref m))) = H12 at kk wf ⊢
    have sj := stOf_join sim.s ol ha
    rw [← hs_join (a := a)] at wf
    have wf2 : Wd K C H12 τ' (growA W l h m) (g.join l a).hs ks (flOf (g.join l a)) (stOf (g.join l a)) (stOf (g.join l a)) := by
      rw [← sj]
      exact wf
    have sJ := sim.s.join ol ha nl h10
    have kJ : KsIn (g.join l a).hs ks := fun k hk => by
      rw [hs_join]
      exact ⟨List.mem_append_left _ (sim.k k hk).1, List.mem_append_left _ (sim.k k hk).2⟩
    have k12 : Kt (fun t => Tw t ∨ Td t ∨ t = .po) τ τ' H H12 := (((k4.mono fun _ z => .inr (.inr z)).trans (k5.mono fun _ z => .inl (.inr (.inl ⟨a, z⟩)))).trans (k6.mono fun _ z => .inl (.inr (.inr ⟨a, z⟩)))).trans (kk.mono fun _ z => .inr (.inl z))
    have k512 : Kt (fun t => Tw t ∨ Td t) τ τ' H4 H12 := ((k5.mono fun _ z => .inl (.inr (.inl ⟨a, z⟩))).trans (k6.mono fun _ z => .inl (.inr (.inr ⟨a, z⟩)))).trans (kk.mono fun _ z => .inr z)
    have npr : ¬ (Tw .pr ∨ Td .pr ∨ Tag.pr = .po) := fun z => z.elim (not_tw (by simp) (by simp) (by simp) (by simp)) fun z => z.elim (fun z => by rcases z with z | z <;> cases z) fun z => by cases z
    have npo : ¬ (Tw .po ∨ Td .po) := fun z => z.elim tw_po fun z => by rcases z with z | z <;> cases z
    obtain ⟨R12, tr12⟩ := rng_tw R4 tr k512 npo
    have prl12 := prl.keep k12 npr
    obtain ⟨us, eLP, pr⟩ := prl12.ex
    have usl : us.length ≤ 20 := by
      rw [Xp.Prs.length pr]
      have : g.hs.length = g.ps.length + 1 := by show (hsT g.r g.ps).length = _; unfold hsT; rw [List.length_cons, List.length_map]
      omega
    refine ⟨_, rfl, .inl ⟨rfl, _, SqL.of eLP⟩, _, rfl, _, rfl, (by show 2 ≤ sizeLine; decide), fun t o nt st zt => ?_⟩
    generalize upd H12 t o = H13 at st zt ⊢
    have eLP13 := st _ _ eLP
    refine ⟨LP, _, _, rfl, rfl, eLP13, small200 (by omega), ?_⟩
    have k13 : Kt (· = .pr) τ' τ' H12 (upd H13 LP (.lst (us ++ [.ref t]))) := (Kt.same st).updT fun o e => ⟨⟨_, prl12.t, rfl⟩, fun _ _ z => by rw [eLP] at e; injection e with e; rw [← e] at z; cases z⟩
    have fk13 : FzK H13 (upd H13 LP (.lst (us ++ [.ref t]))) := (FzK.refl H13).upd eLP13 (fun _ _ z => nomatch z)
    have pr14 : Prl (upd H13 LP (.lst (us ++ [.ref t]))) τ' LP (g.ps ++ [(l, a)]) := ⟨⟨_, upd_same, pr_fzk (Xp.Prs.snoc (pr_same pr st) ⟨t, rfl, zt⟩) fk13⟩, prl12.t⟩
    generalize upd H13 LP (.lst (us ++ [.ref t])) = H14 at k13 pr14 ⊢
    have w14 := wf2.keep k13 (by simp) (by simp) (by simp) (by simp)
    have haJ : a ∈ (g.join l a).hs := by rw [hs_join]; exact List.mem_append_left _ ha
    have hlJ : l ∈ (g.join l a).hs := by rw [hs_join]; exact List.mem_append_right _ (List.mem_singleton.mpr rfl)
    obtain ⟨ada, hwa, _⟩ := w14.hw a haJ
    obtain ⟨ama, mwa, _⟩ := w14.mw a haJ
    have eha : (growA W l h m).ha a = W.ha a := if_neg al
    have ema : (growA W l h m).ma a = W.ma a := if_neg al
    rw [eha] at hwa
    rw [ema] at mwa
    refine ⟨_, rfl, rfl, _, rfl, ?_⟩
    rw [decide_eq_true rfl]
    refine iteT ⟨_, rfl, _, rfl, W.ha a, W.ma a, stOf (g.join l a) a, ada, ama, rfl, hwa, mwa, (fun xs c e => nomatch e), sJ.fits haJ, fun H15 s15 => ?_⟩
    refine ⟨_, rfl, iteT ?_⟩
    have w15 := w14.same s15
    obtain ⟨adl, hwl, _⟩ := w15.hw l hlJ
    obtain ⟨aml, mwl, _⟩ := w15.mw l hlJ
    refine ⟨_, rfl, W.D, _, rfl, w15.gH, _, rfl, W.hD, _, rfl, w15.gh hlJ, _, rfl, W.D, _, rfl, w15.gM, _, rfl, W.mD, _, rfl, w15.gm hlJ, (growA W l h m).ha l, (growA W l h m).ma l, stOf (g.join l a) l, adl, aml, rfl, hwl, mwl, (fun xs c e => nomatch e), sJ.fits hlJ, fun H16 s16 => ?_⟩
    have kT : Kt Tj τ τ' H H16 := ((k12.mono fun _ z => z.elim .inl fun z => .inr (z.elim .inl fun z => .inr (.inl z))).trans (k13.mono fun _ z => .inr (.inr (.inr z)))).trans (Kt.same (s15.trans s16))
    have R14 := rng_tw R12 tr12 (k13.trans (Kt.same (s15.trans s16))) (by simp)
    exact q H16 (growA W l h m) τ' l a kT rfl ⟨w15.same s16, sJ, kJ⟩ ol ha R14.1 R14.2 (pr14.keep (Kt.same (t := fun _ => False) (s15.trans s16)) fun z => z)
end
end My

namespace My
open PySem PySem.Spec PyProof.Rows L2 Gy Xl Xs Xt Xo Xp Xu Xd
/-! ### one step -/
theorem if_use2 {t : TT} {A B rest : TS} {D : Ends} {σ : L2.St} {H : Hp} (S : Bool → Hp → Prop) (h1 : ∀ Q' : Bool → Hp → Prop, (∀ b H', S b H' → Q' b H') → t σ H Q') (hT : ∀ H', S true H' → A { D with nx := rest D } σ H') (hF : ∀ H', S false H' → B { D with nx := rest D } σ H') : tSeq (tIfS t A B) rest D σ H := by
  refine h1 _ fun b H' s => ?_
  cases b with
  | true => exact hT H' s
  | false => exact hF H' s
def wtxt (n : Nat) : Str := ("w" : Str) ++ toString (n : Int)
theorem wtxt_ok : ∀ n, n < 12 → isWord (.str (wtxt n)) = true ∧ (decide ((wtxt n).length ≤ 20) && (wtxt n).cps.toList.all fun c => decide (c < 0x110000)) = true ∧ ∀ m, m < 12 → wtxt n = wtxt m → n = m := by decide +kernel
theorem wtxt_len : ∀ n : Nat, n < 12 → ("w" : Str).length + (toString (n : Int) : Str).length ≤ 200 := by decide +kernel
structure Wld (K : PySem.W.Frag) (C : Addr) (H : Hp) (τ : Tg) (W : WA) (ks : List (Str × Str)) (g : GS) (r LP PD : Addr) (pa : Msg → Addr) : Prop where
  m : Sim K C H τ W ks g
  p : Pst K H τ PD pa g.ws g.past
  l : Prl H τ LP g.ps
  R : Rng H r
  tr : τ r = some .po
  wn : ∀ m ∈ g.ws, ∃ n, n < g.ws.length ∧ m.2 = wtxt n
section
variable {P : Program} {w : World} {K : PySem.W.Frag} {mg : Str → Option Value} {base : Heap} {C CN CT : Addr} {H H1 H2 : Hp} {τ τ1 : Tg} {W : WA} {hs : List Str} {ks : List (Str × Str)} {g : GS} {r LP PD : Addr} {pa : Msg → Addr}
theorem Wld.same (z : Wld K C H τ W ks g r LP PD pa) (s : Same H H1) : Wld K C H1 τ W ks g r LP PD pa := ⟨z.m.same s, z.p.keep (Kt.same (t := fun _ => False) s) (fun z => z) (fun _ z => z), z.l.keep (Kt.same (t := fun _ => False) s) (fun z => z), z.R.same s, z.tr, z.wn⟩
theorem Wld.but (z : Wld K C H τ W ks g r LP PD pa) (b : But r H H1) (R1 : Rng H1 r) : Kt (· = .po) τ τ H H1 ∧ Wld K C H1 τ W ks g r LP PD pa := by
  have k := Kt.but b z.R R1 z.tr
  exact ⟨k, z.m.po k, z.p.keep k (by simp) (by simp), z.l.keep k (by simp), R1, z.tr, z.wn⟩
theorem Wld.new (z : Wld K C H τ W ks g r LP PD pa) {u : Str} (l : g.ws.length < 12) : (u, wtxt g.ws.length) ∉ g.ws := fun h => by
  obtain ⟨n, hn, e⟩ := z.wn _ h
  have := (wtxt_ok _ l).2.2 n (by omega) e
  omega
def spSt (K : PySem.W.Frag) (C : Addr) : Sp := fun vs H Q _ => ∃ (τ : Tg) (W : WA) (ks : List (Str × Str)) (g : GS) (r LP PD : Addr) (pa : Msg → Addr), vs = [.ref r, .ref W.D, .ref LP, .ref PD] ∧ Wld K C H τ W ks g r LP PD pa ∧
  ∀ H' τ' W' ks' g' pa', Kt (fun _ => True) τ τ' H H' → W'.D = W.D → Wld K C H' τ' W' ks' g' r LP PD pa' → Q (.bl true) H'
theorem ok_step {f : Addr} {fd : FuncData} (F : Fun K "_law_step" "_law_step" s_law_step f fd) (Y : Bn mg) (G_law_draw : Fk P w K mg base CX0 1 "_law_draw" ["_law_pot_here", "_law_count"] spDraw) (G_law_busy : Fk P w K mg base CX0 1 "_law_busy" ["_law_world_here"] (spBusy K C)) (G_law_choose : Fk P w K mg base CX0 2 "_law_choose" ["_law_pot_here", "_law_values"] spCh)
    (G_law_noted : Fg P w K mg base CX0 13 "_law_noted" ["_law_world_here", "_law_pasts", "_law_name_here", "_law_word"] (spNt K C)) (G_law_joined : Fg P w K mg base CX0 4 "_law_joined" ["_law_pot_here", "_law_world_here", "_law_pairs"] (spJd K C)) (G_law_delivered : Fg P w K mg base CX0 12 "_law_delivered" ["_law_world_here", "_law_pair"] (spDel K C)) : FnG P w K mg base CX0 14 f fd ["_law_pot_here", "_law_world_here", "_law_pairs", "_law_pasts"] (spSt K C) := by
  refine fun_g0 F sc_law_step (fun {vs H Q E} h => ?_) (fun cdv A outer s H vs Q E gd hr h => ?_)
  · obtain ⟨τ, W, ks, g, r, LP, PD, pa, rfl, _⟩ := h
    rfl
  · obtain ⟨τ, W, ks, g, r, LP, PD, pa, rfl, z0, q⟩ := h
    have hu1 := hu_of hr
    have hu0 := Nat.lt_of_succ_lt hu1
    refine ⟨_, (pss_cons (ps_par (i := 4) (j := 5) (by rfl) sc_law_step.nd rfl rfl (by decide) rfl rfl (pa_cons (pe_callF G_law_draw (hr.mono (by decide)) (by rfl) pass0 (pa_cons (pv 0) (pa_cons pe_int pa_nil))) (pa_cons (pe_callF G_law_busy (hr.mono (by decide)) (by rfl) pass0 (pa_cons (pv 1) pa_nil)) pa_nil)) (by rfl))
 (pss_cons (ps_if (PW.pt (pw_and (pt_cmpR op_eq (pv 4) pe_int (nomark _)) (pw_and1 (pt_cmpR op_lt (pe_callB call_len_dT (by rfl) Y.len PySem.boot_len (pa_cons (pv 3) pa_nil)) pe_int (nomark _)))))
 (pss_one (ps_ret (pe_callFg (E := E0) G_law_noted gd (hr.mono (by decide)) (by rfl) pass0 (pa_cons (pv 1) (pa_cons (pv 3) (pa_cons (pe_callF G_law_choose (hr.mono (by decide)) (by rfl) pass0 (pa_cons (pv 0) (pa_cons (pe_callB (call_sortedD rfl) (by rfl) Y.sorted (by decide +kernel) (pa_cons (pe_dget hu1 (pv 1) pe_str (fun _ _ => rfl)) pa_nil)) pa_nil))) (pa_cons (pe_op op_add_str pe_str (pe_callTy call_str_int (by rfl) Y.str (by decide +kernel) (pa_cons (pe_callB call_len_dT (by rfl) Y.len PySem.boot_len (pa_cons (pv 3) pa_nil)) pa_nil))) pa_nil)))))))
 pss_nil)
 (pss_cons (ps_if (PW.pt (pw_and (pt_cmpR op_eq (pv 4) pe_int (nomark _)) (pw_and (pt_cmpR op_lt (pe_callB call_lenD (by rfl) Y.len PySem.boot_len (pa_cons (pe_dget hu1 (pv 1) pe_str (fun _ _ => rfl)) pa_nil)) pe_int (nomark _)) (pw_and1 (pt_cmpR op_eq (pe_callF G_law_draw (hr.mono (by decide)) (by rfl) pass0 (pa_cons (pv 0) (pa_cons pe_int pa_nil))) pe_int (nomark _))))))
 (pss_one (ps_ret (pe_callFg (E := E0) G_law_joined gd (hr.mono (by decide)) (by rfl) pass0 (pa_cons (pv 0) (pa_cons (pv 1) (pa_cons (pv 2) pa_nil))))))
 pss_nil)
 (pss_one (ps_ret (pe_or (pe_cmpR (op_eqEmL hu0) (pv 5) (pe_lst pa_nil) (nomark _)) (pe_one (pe_callFg (E := E0) G_law_delivered gd (hr.mono (by decide)) (by rfl) pass0 (pa_cons (pv 1) (pa_cons (pe_callF G_law_choose (hr.mono (by decide)) (by rfl) pass0 (pa_cons (pv 0) (pa_cons (pv 5) pa_nil))) pa_nil)))))))))), ?_⟩
    have h11 := z0.m.s.hl
    have hpos : 0 < g.hs.length := Nat.succ_pos _
    refine ⟨_, rfl, r, _, rfl, z0.R, by decide, by decide, fun H1 d b1 R1 _ _ => ?_⟩
    obtain ⟨k1, z1⟩ := z0.but b1 R1
    have kl := z1.m.kl
    refine ⟨_, rfl, τ, W, g.hs, ks, flOf g, stOf g, stOf g, rfl, z1.m.w, by omega, fun H2 L ys qs s2 nL eL kp pm pw => ?_⟩
    have z2 := z1.same s2
    have k2 : Kt (fun _ => True) τ τ H H2 := (k1.trans (Kt.same s2)).mono fun _ _ => True.intro
    have tL : τ L = none := z1.m.w.new nL
    have B2 : Bsy H2 τ L ys qs ks g := ⟨eL, tL, kp, pm⟩
    refine ⟨_, _, rfl, ?_⟩
    dsimp only
    refine if_use2 (S := fun b H' => H' = H2 ∧ (b = true → g.ws.length < 12)) (fun Q' hq => ?_) (fun H3 hS => ?_) (fun H3 hS => ?_)
    · refine ⟨_, rfl, rfl, _, rfl, ite2 (fun c1 => ?_) (fun _ => hq _ _ ⟨rfl, fun z => nomatch z⟩)⟩
      refine ⟨_, rfl, PD, _, rfl, z2.p.d, _, _, rfl, rfl, _, rfl, hq _ _ ⟨rfl, fun c => ?_⟩⟩
      have c := of_decide_eq_true c
      rw [ckv_len] at c
      omega
    · obtain ⟨rfl, l12⟩ := hS
      have l12 := l12 rfl
      -- a host writes
      refine ⟨_, rfl, _, rfl, _, rfl, _, rfl, W.D, _, rfl, z2.m.w.gH, W.hD, _, g.hs, rfl, .inl z2.m.w.h, nkv_keys _ _, by omega, fun ys2 p2 pm2 so2 np2 => ?_⟩
      have s4 := same_upd (o := .lst (ys2.map V.str)) np2
      have e4 : (upd H3 p2 (.lst (ys2.map V.str))) p2 = some (.lst (ys2.map V.str)) := upd_same
      generalize upd H3 p2 (.lst (ys2.map V.str)) = H4 at s4 e4 ⊢
      have z4 := z2.same s4
      refine ⟨r, p2, _, rfl, z4.R, z2.R.ne np2, e4, by rw [List.length_map, pm2.length_eq]; exact hpos, by rw [List.length_map, pm2.length_eq]; omega, fun H5 u b5 R5 hu => ?_⟩
      obtain ⟨a, ha, rfl⟩ := List.mem_map.mp hu
      have ha := pm2.mem_iff.mp ha
      obtain ⟨k5, z5⟩ := z4.but b5 R5
      have e5 := wtxt_ok _ l12
      refine ⟨_, rfl, PD, _, rfl, z5.p.d, _, rfl, ?_, _, _, rfl, rfl, ?_, ?_⟩
      · rw [ckv_len, Int.natAbs_natCast]
        exact Nat.lt_of_le_of_lt (Nat.log2_le_self _) (by omega)
      · rw [ckv_len]
        exact Nat.le_trans (wtxt_len _ l12) (by decide)
      rw [ckv_len]
      refine ⟨τ, W, ks, g, a, wtxt g.ws.length, PD, pa, rfl, z5.m, z5.p, ha, z5.new l12, l12, e5.1, a0_txt e5.2.1, fun H6 fa ks6 τ6 pa6 k6 sim6 p6 => ?_⟩
      have npo : ¬ To .po := fun z => z.elim tw_po fun z => z.elim (fun z => by cases z) fun ⟨_, z⟩ => by cases z
      have npr : ¬ To .pr := fun z => z.elim (not_tw (by simp) (by simp) (by simp) (by simp)) fun z => z.elim (fun z => by cases z) fun ⟨_, z⟩ => by cases z
      obtain ⟨R6, tr6⟩ := rng_tw R5 z5.tr k6 npo
      have kk : Kt (fun _ => True) τ τ6 H H6 := ((k2.trans (Kt.same s4)).trans (k5.mono fun _ _ => True.intro)).trans (k6.mono fun _ _ => True.intro)
      refine q H6 τ6 (Tch W fa) ks6 (g.wrote a (a, wtxt g.ws.length)) pa6 kk rfl ⟨sim6, p6, z5.l.keep k6 npr, R6, tr6, fun m hm => ?_⟩
      have wl : (g.wrote a (a, wtxt g.ws.length)).ws.length = g.ws.length + 1 := by
        show (g.ws ++ [_]).length = _
        rw [List.length_append]
        rfl
      rw [wl]
      rcases List.mem_append.mp (show m ∈ g.ws ++ [(a, wtxt g.ws.length)] from hm) with y | y
      · obtain ⟨n, h1, h2⟩ := z0.wn m y
        exact ⟨n, by omega, h2⟩
      · rw [List.mem_singleton.mp y]
        exact ⟨g.ws.length, by omega, rfl⟩
    · obtain ⟨rfl, _⟩ := hS
      dsimp only [tNext]
      refine if_use2 (S := fun b H' => Kt (fun _ => True) τ τ H H' ∧ Wld K C H' τ W ks g r LP PD pa ∧ Bsy H' τ L ys qs ks g ∧ (b = true → g.hs.length < 11)) (fun Q' hq => ?_) (fun H4 hS => ?_) (fun H4 hS => ?_)
      · have no : ∀ b, (b = true → g.hs.length < 11) → Q' b H3 := fun b hb => hq _ _ ⟨k2, z2, B2, hb⟩
        refine ⟨_, rfl, rfl, _, rfl, ite2 (fun _ => ?_) (fun _ => no _ fun z => nomatch z)⟩
        refine ⟨_, rfl, W.D, _, rfl, z2.m.w.gH, W.hD, _, rfl, z2.m.w.h, _, _, rfl, rfl, _, rfl, ite2 (fun c => ?_) (fun _ => no _ fun z => nomatch z)⟩
        have c := of_decide_eq_true c
        rw [nkv_len] at c
        refine ⟨_, rfl, r, _, rfl, z2.R, by decide, by decide, fun H5 d5 b5 R5 _ _ => ?_⟩
        obtain ⟨k5, z5⟩ := z2.but b5 R5
        refine ⟨rfl, _, rfl, hq _ _ ⟨k2.trans (k5.mono fun _ _ => True.intro), z5, ⟨(k5.no_ eL tL).1, tL, ?_, pm⟩, fun _ => by omega⟩⟩
        refine kps_same kp fun t o e => b5 _ _ (fun w => ?_) e
        obtain ⟨_, _, e0, _⟩ := z2.R
        rw [w, e0] at e
        cases e
      · obtain ⟨k4, z4, _, l11⟩ := hS
        have l11 := l11 rfl
        refine ⟨_, rfl, _, rfl, _, rfl, τ, W, ks, g, r, LP, rfl, z4.m, z4.R, z4.tr, z4.l, l11, fun H5 W5 τ5 l a k5 eW sim5 hl ha R5 tr5 l5 => ?_⟩
        have npd : ¬ Tj .pd := fun z => z.elim (not_tw (by simp) (by simp) (by simp) (by simp)) fun z => z.elim (fun z => by rcases z with z | z <;> cases z) fun z => by rcases z with z | z <;> cases z
        have npl : ∀ m, ¬ Tj (.pl m) := fun m z => z.elim (not_tw (by simp) (by simp) (by simp) (by simp)) fun z => z.elim (fun z => by rcases z with z | z <;> cases z) fun z => by rcases z with z | z <;> cases z
        exact q H5 τ5 W5 ks (g.join l a) pa (k4.trans (k5.mono fun _ _ => True.intro)) eW ⟨sim5, z4.p.keep k5 npd npl, l5, R5, tr5, z4.wn⟩
      · obtain ⟨k4, z4, B4, _⟩ := hS
        dsimp only [tNext]
        refine ⟨_, rfl, Nat.zero_le _, fun l nl => ?_⟩
        have s5 := same_upd (o := .lst []) nl
        have g5 : (upd H4 l (.lst [])) l = some (.lst []) := upd_same
        generalize upd H4 l (.lst []) = H5 at s5 g5 ⊢
        have z5 := z4.same s5
        have e5 := s5 _ _ B4.e
        refine ⟨L, l, ys, rfl, rfl, SqL.of e5, SqL.of g5, _, rfl, ?_⟩
        cases hy : ys with
        | nil => exact iteT (q H5 τ W ks g pa (k4.trans (Kt.same s5)) rfl z5)
        | cons y0 yr =>
          have nLr : L ≠ r := fun z => by
            have := B4.t
            rw [z, z4.tr] at this
            cases this
          have yl : ys.length ≤ 121 := by
            rw [B4.k.len, B4.p.length_eq]
            exact Nat.le_trans (List.length_filter_le _ _) kl
          refine iteF ⟨_, rfl, _, rfl, _, rfl, r, L, ys, rfl, z5.R, nLr, e5, by rw [hy]; exact Nat.succ_pos _, by omega, fun H6 u b6 R6 hu => ?_⟩
          obtain ⟨k6, z6⟩ := z5.but b6 R6
          obtain ⟨p, hp, t, rfl, ep⟩ := Kps.mem2 (B4.k.same s5) hu
          obtain ⟨u, v⟩ := p
          obtain ⟨mm, rest, hf⟩ := busy_in B4.p hp
          have ntr : t ≠ r := fun z => by
            obtain ⟨_, _, e, _⟩ := z5.R
            rw [z, e] at ep
            cases ep
          refine ⟨τ, W, ks, g, t, u, v, mm, rest, rfl, z6.m, ⟨t, rfl, b6 _ _ ntr ep⟩, hf, fun H7 fa7 ks7 τ7 k7 sim7 => ?_⟩
          obtain ⟨R7, tr7⟩ := rng_tw R6 z6.tr k7 tw_po
          exact q H7 τ7 (Tch W fa7) ks7 (g.got u v mm rest) pa (((k4.trans (Kt.same s5)).trans (k6.mono fun _ _ => True.intro)).trans (k7.mono fun _ _ => True.intro)) rfl ⟨sim7, z6.p.tw k7, z6.l.keep k7 (not_tw (by simp) (by simp) (by simp) (by simp)), R7, tr7, z6.wn⟩
end
end My

namespace My
open PySem PySem.Spec PyProof.Rows L2 Gy Xl Xs Xt Xo Xp Xu Xd
/-! ### the law -/
section
variable {P : Program} {w : World} {K : PySem.W.Frag} {mg : Str → Option Value} {base : Heap} {C CN CT : Addr} {H H1 H2 : Hp} {τ τ1 : Tg} {W : WA} {hs : List Str} {ks : List (Str × Str)} {g : GS} {r LP PD : Addr} {pa : Msg → Addr}
theorem ok_law {f : Addr} {fd : FuncData} (F : Fun K "law" "law" s_law f fd) (Y : Bn mg) (G_law_pot : Fk P w K mg base CX0 1 "_law_pot" ["_law_script", "_law_k"] (spPot K)) (G_law_draw : Fk P w K mg base CX0 1 "_law_draw" ["_law_pot_here", "_law_count"] spDraw) (G_law_tree : Fk P w K mg base CX0 3 "_law_tree" ["_law_pot_here", "_law_least", "_law_most"] spTree)
    (G_law_world : Fk P w K mg base CX0 3 "_law_world" ["_law_hosts", "_law_pairs"] (spWorld K C)) (G_law_step : Fg P w K mg base CX0 14 "_law_step" ["_law_pot_here", "_law_world_here", "_law_pairs", "_law_pasts"] (spSt K C)) (G_law_at_rest : Fg P w K mg base CX0 13 "_law_at_rest" ["_law_pot_here", "_law_world_here"] (spRest K C))
    (G_law_causal : Fk P w K mg base CX0 2 "_law_causal" ["_law_world_here", "_law_pasts"] (spCau K C)) (G_law_end_right : Fk P w K mg base CX0 3 "_law_end_right" ["_law_world_here", "_law_words", "_law_pairs"] (spEr K C)) : FnG P w K mg base CX0 15 f fd ["_law_script"] (spLaw K) := by
  refine fun_g0 F sc_law (fun {vs H Q E} h => ?_) (fun cdv A outer s H vs Q E gd hr h => ?_)
  · obtain ⟨a, ns, rfl, _⟩ := h
    rfl
  · obtain ⟨a, ns, rfl, hS, hn, q⟩ := h
    refine ⟨_, (pss_cons (ps_for PassesOwn.never rfl (pi_range1 (by rfl) Y.range (pa_cons (pe_callB (call_max2 rfl) (by rfl) Y.max (by decide +kernel) (pa_cons pe_int (pa_cons (pe_callB (call_min2 rfl) (by rfl) Y.min (by decide +kernel) (pa_cons pe_int (pa_cons (pe_callB call_len_seq (by rfl) Y.len PySem.boot_len (pa_cons (pv 0) pa_nil)) pa_nil))) pa_nil))) pa_nil)) (pg_name (i := 1) sc_law.nd rfl (Or.inl rfl))
 (pss_cons (ps_set (i := 2) sc_law.nd rfl (.inl rfl) (pe_callF G_law_pot (hr.mono (by decide)) (by rfl) pass0 (pa_cons (pv 0) (pa_cons (pv 1) pa_nil))))
 (pss_cons (ps_asg (pe_callF G_law_tree (hr.mono (by decide)) (by rfl) pass0 (pa_cons (pv 2) (pa_cons pe_int (pa_cons pe_int pa_nil)))) (pg_tup (by rfl) (pgs_cons (pg_name (i := 3) sc_law.nd rfl (Or.inl rfl)) (pgs_cons (pg_name (i := 4) sc_law.nd rfl (Or.inl rfl)) pgs_nil))))
 (pss_cons (ps_par (i := 5) (j := 6) (by rfl) sc_law.nd rfl rfl (by decide) rfl rfl (pa_cons (pe_callF G_law_world (hr.mono (by decide)) (by rfl) pass0 (pa_cons (pv 3) (pa_cons (pv 4) pa_nil))) (pa_cons pe_dnewT pa_nil)) (by rfl))
 (pss_cons (ps_for PassesOwn.never rfl (pi_range1 (by rfl) Y.range (pa_cons (pe_callF G_law_draw (hr.mono (by decide)) (by rfl) pass0 (pa_cons (pv 2) (pa_cons pe_int pa_nil))) pa_nil)) (pg_name (i := 7) sc_law.nd rfl (Or.inl rfl))
 (pss_one (ps_if (pt_not (pt_val (pe_callFg (E := E0) G_law_step gd (hr.mono (by decide)) (by rfl) pass0 (pa_cons (pv 2) (pa_cons (pv 5) (pa_cons (pv 4) (pa_cons (pv 6) pa_nil)))))))
 (pss_one (ps_ret pe_bl))
 pss_nil)))
 (pss_cons (ps_if (PW.pt (pw_or (pt_not (pt_val (pe_callFg (E := E0) G_law_at_rest gd (hr.mono (by decide)) (by rfl) pass0 (pa_cons (pv 2) (pa_cons (pv 5) pa_nil))))) (pw_or1 (pt_not (pt_val (pe_callF G_law_causal (hr.mono (by decide)) (by rfl) pass0 (pa_cons (pv 5) (pa_cons (pv 6) pa_nil))))))))
 (pss_one (ps_ret pe_bl))
 pss_nil)
 (pss_one (ps_if (pt_not (pt_val (pe_callF G_law_end_right (hr.mono (by decide)) (by rfl) pass0 (pa_cons (pv 5) (pa_cons (pe_callTy (call_list_dT rfl) (by rfl) Y.list (by decide +kernel) (pa_cons (pv 6) pa_nil)) (pa_cons (pv 4) pa_nil))))))
 (pss_one (ps_ret pe_bl))
 pss_nil))))))))
 (pss_one (ps_ret pe_bl))), ?_⟩
    refine ⟨_, rfl, a, _, rfl, .inl hS, 4, _, rfl, 1, _, rfl, _, rfl, ?_, ?_, ?_⟩
    · rw [List.length_map]
      split <;> split <;> omega
    · rw [List.length_map]
      split <;> split <;> omega
    generalize hm : (Int.toNat _) = m
    have m4 : m ≤ 6 := by
      rw [List.length_map] at hm
      rw [← hm]
      split <;> split <;> omega
    refine for_it (walk_range (lo := 0) (n := m)) (fun i σ H' => ∃ a1 a2 a3 a4 a5 a6 a7, σ = [some (.ref a), a1, a2, a3, a4, a5, a6, a7] ∧ Same H H') ⟨none, none, none, none, none, none, none, rfl, Same.refl H⟩ (fun _ _ _ _ _ => trivial) ?_ ?_
    · rintro k y σ HA H1 hk ⟨a1, a2, a3, a4, a5, a6, a7, rfl, s1⟩ ⟨rfl, rfl⟩
      refine ⟨_, rfl, _, rfl, a, ns, k, (by show [V.ref a, V.int (0 + (k : Int))] = _; rw [Int.zero_add]), s1.seq hS, by omega, fun H2 r s2 nr R2 => ?_⟩
      refine ⟨_, rfl, r, 1, 8, rfl, R2, by decide, by decide, by decide, fun H3 T L M ns us ls b3 R3 zT nL nM eL eM pr tk nm l1 l8 => ?_⟩
      obtain ⟨r0, rfl, gr⟩ := tk
      have s13 : Same H1 H3 := fun b o e => b3 _ _ (fun z => by rw [z, nr] at e; cases e) (s2 _ _ e)
      refine ⟨T, _, rfl, zT.sq, rfl, _, _, rfl, _, _, rfl, rfl, ?_⟩
      have nMr : M ≠ r := fun z => by
        obtain ⟨_, _, e, _⟩ := R2
        rw [z, e] at nM
        cases nM
      have tr0 : (fun b => if b = r then some Tag.po else if b = M then some Tag.pr else none : Tg) r = some .po := if_pos rfl
      have tM0 : (fun b => if b = r then some Tag.po else if b = M then some Tag.pr else none : Tg) M = some .pr := (if_neg nMr).trans (if_pos rfl)
      have tk0 : ∀ b u, (fun b => if b = r then some Tag.po else if b = M then some Tag.pr else none : Tg) b = some u → (b = r ∧ u = .po) ∨ (b = M ∧ u = .pr) := fun b u e => by
        dsimp only at e
        by_cases c : b = r
        · rw [if_pos c] at e
          injection e with e
          exact .inl ⟨c, e.symm⟩
        · rw [if_neg c] at e
          by_cases d : b = M
          · rw [if_pos d] at e
            injection e with e
            exact .inr ⟨d, e.symm⟩
          · rw [if_neg d] at e
            cases e
      generalize hτ : (fun b => if b = r then some Tag.po else if b = M then some Tag.pr else none : Tg) = τ0 at tr0 tM0 tk0
      refine ⟨_, rfl, _, rfl, L, M, r0, ls, us, τ0, rfl, eL, eM, pr, gr, nm, by omega, fun b n => ?_, fun b u e z => ?_, fun H4 W ks τ4 k4 sim4 => ?_⟩
      · cases e : τ0 b with
        | none => exact absurd e n
        | some u =>
          rcases tk0 b u e with ⟨rfl, _⟩ | ⟨rfl, _⟩
          · obtain ⟨_, _, e, _⟩ := R3
            rw [e]
            exact fun z => nomatch z
          · rw [eM]
            exact fun z => nomatch z
      · rcases tk0 b u e with ⟨_, rfl⟩ | ⟨_, rfl⟩ <;> rcases z with z | z <;> cases z
      intro PD nPD
      have s5 := same_upd (o := .dT []) nPD
      have e5 : (upd H4 PD (.dT [])) PD = some (.dT []) := upd_same
      generalize upd H4 PD (.dT []) = H5 at s5 e5 ⊢
      have k5 : Kt (fun _ => False) τ4 (give τ4 H4 .pd [PD]) H4 H5 := Kt.give s5 (fun b hb => by rw [List.mem_singleton.mp hb, e5]; exact fun z => nomatch z)
      have t5 : give τ4 H4 .pd [PD] PD = some .pd := give_new nPD (by simp)
      generalize give τ4 H4 .pd [PD] = τ5 at k5 t5
      have k35 := k4.trans k5
      obtain ⟨R5, tr5⟩ := rng_tw R3 tr0 k35 (fun z => z)
      have z5 : Wld K C H5 τ5 W ks (gs0 r0 ls) r M PD (fun _ => 0) := ⟨⟨sim4.w.keep k5 (fun _ z => z) (fun _ z => z) (fun _ z => z) ⟨id, id, id, id⟩, sim4.s, sim4.k⟩, ⟨e5, t5, (fun _ z => nomatch z), (fun _ z => nomatch z)⟩, Prl.keep ⟨⟨us, eM, pr⟩, tM0⟩ k35 (fun z => z), R5, tr5, (fun _ z => nomatch z)⟩
      refine ⟨_, _, rfl, ?_⟩
      refine ⟨_, rfl, r, _, rfl, R5, by decide, by decide, fun H6 d b6 R6 d0 d1 => ?_⟩
      obtain ⟨k6, z6⟩ := z5.but b6 R6
      have k36 : Kt (fun _ => True) τ0 τ5 H3 H6 := (k35.mono fun _ z => z.elim).trans (k6.mono fun _ _ => True.intro)
      refine ⟨_, rfl, by omega, by omega, ?_⟩
      have fin : ∀ {H' τ'}, Kt (fun _ => True) τ0 τ' H3 H' → Same H H' := fun {H' τ'} kk b o e => by
        refine (kk.no_ (s13 _ _ (s1 _ _ e)) ?_).1
        cases et : τ0 b with
        | none => rfl
        | some u =>
          rcases tk0 b u et with ⟨rfl, _⟩ | ⟨rfl, _⟩
          · rw [same_no s1 nr] at e
            cases e
          · rw [same_no (s1.trans s2) nM] at e
            cases e
      refine for_it (walk_range (lo := 0) (n := d.toNat)) (fun i σ H' => ∃ a7 τ' W' ks' g' pa', W'.D = W.D ∧ σ = [some (.ref a), some (.int (0 + (k : Int))), some (.ref r), some (.ref L), some (.ref M), some (.ref W.D), some (.ref PD), a7] ∧ Kt (fun _ => True) τ0 τ' H3 H' ∧ Wld K C H' τ' W' ks' g' r M PD pa')
        ⟨a7, τ5, W, ks, _, _, rfl, rfl, k36, z6⟩ (fun _ _ _ _ _ => trivial) ?_ ?_
      · rintro i y σ HB H7 hi ⟨b7, τ7, W7, ks7, g7, pa7, eW, rfl, k7, z7⟩ ⟨rfl, rfl⟩
        refine ⟨_, rfl, _, rfl, _, rfl, _, rfl, τ7, W7, ks7, g7, r, M, PD, pa7, by rw [eW], z7, fun H8 τ8 W8 ks8 g8 pa8 k8 eW8 z8 => ?_⟩
        exact ⟨_, rfl, iteF ⟨_, τ8, W8, ks8, g8, pa8, eW8.trans eW, rfl, k7.trans k8, z8⟩⟩
      · rintro σ H7 ⟨b7, τ7, W7, ks7, g7, pa7, eW, rfl, k7, z7⟩
        refine ⟨_, rfl, _, rfl, τ7, W7, ks7, g7, r, by rw [eW], z7.m, z7.R, z7.tr, fun H8 fa8 ks8 τ8 g8 k8 sim8 R8 emp er eps ews epa => ?_⟩
        have ntr : ∀ {u : Tag}, (u ≠ .df) → (∀ k, u ≠ .ch k) → (∀ x, u ≠ .ho x) → (∀ x, u ≠ .mo x) → u ≠ .po → ¬ Tr u := fun h1 h2 h3 h4 h5 z => z.elim (not_tw h1 h2 h3 h4) h5
        have p8 : Pst K H8 τ8 PD pa7 g8.ws g8.past := by
          rw [ews, epa]
          exact z7.p.keep k8 (ntr (by simp) (by simp) (by simp) (by simp) (by simp)) fun _ => ntr (by simp) (by simp) (by simp) (by simp) (by simp)
        have l8' : Prl H8 τ8 M g8.ps := by
          rw [eps]
          exact z7.l.keep k8 (ntr (by simp) (by simp) (by simp) (by simp) (by simp))
        have k38 := k7.trans (k8.mono fun _ _ => True.intro)
        refine ⟨_, rfl, iteF ?_⟩
        refine ⟨_, rfl, _, rfl, τ8, Tch W7 fa8, ks8, g8, PD, pa7, by rw [show (Tch W7 fa8).D = W.D from eW]; rfl, sim8, p8, fun H9 s9 => ⟨_, rfl, iteF ?_⟩⟩
        have p9 := p8.keep (Kt.same (t := fun _ => False) s9) (fun z => z) (fun _ z => z)
        have sim9 := sim8.same s9
        have l9 := l8'.keep (Kt.same (t := fun _ => False) s9) (fun z => z)
        dsimp only [tNext]
        refine ⟨_, rfl, _, rfl, PD, _, rfl, .inl p9.d, fun LW bs nLW isk => ?_⟩
        have s10 := same_upd (o := .lst (bs.map V.ref)) nLW
        have e10 : (upd H9 LW (.lst (bs.map V.ref))) LW = some (.lst (bs.map V.ref)) := upd_same
        generalize upd H9 LW (.lst (bs.map V.ref)) = H10 at s10 e10 ⊢
        have kw : Kps H9 (bs.map V.ref) g8.ws := keys_kps isk
        refine ⟨_, rfl, τ8, Tch W7 fa8, ks8, g8, LW, M, _, by rw [show (Tch W7 fa8).D = W.D from eW]; rfl, sim9.same s10, emp, e10, kw.same s10, l9.keep (Kt.same (t := fun _ => False) s10) (fun z => z), fun H11 s11 => ⟨_, rfl, iteF ?_⟩⟩
        exact ⟨_, _, _, _, _, _, _, rfl, fin (k38.trans (Kt.same ((s9.trans s10).trans s11)))⟩
    · rintro σ H7 ⟨a1, a2, a3, a4, a5, a6, a7, rfl, s7⟩
      exact q _
end
end My

namespace My
open PySem PySem.Spec PyProof.Rows L2 Gy Xl Xs Xt Xo Xp Xu Xd
/-! ### a host made without a log -/
theorem kb_init {K : PySem.W.Frag} {e f : Addr} {fd : FuncData} (F : FunD K "__init__" "Host.__init__" (defArgs m_init) (defBody m_init) (defScope m_init) [] [("log", .ref e)] f fd) : ∃ g, KBn K fd ["self", "name", "links", "log"] 2 ["links"] g (fun vs zs => vs ++ zs ++ [.ref e]) := by
  obtain ⟨mv, h⟩ := F.kbinds0 (ps := ["self", "name", "links", "log"]) 2 ["links"] [("log", .ref e)] (fun us mv ws => us ++ ws ++ mv) (fun z => nomatch z) (fun q hq => hq) (fun r1 r2 r3 => (r1.append r3).append r2) fun D doc pm an cdv ct us mv ws l1 l2 l3 => match us, mv, ws, l1, l2, l3 with
    | [_, _], [_], [_], _, _, _ => ⟨_, _, _, _, _, _, rfl, rfl, rfl⟩
  exact ⟨_, h⟩
theorem sq_empty {K : PySem.W.Frag} {e : Addr} {o : Obj} (l : K.lookup e = some o) (c : o.cls = .type "tuple" ∧ ∃ n, o.data = .seq #[] n) (H : Hp) : SqT K H e [] := by
  obtain ⟨c1, n, c2⟩ := c
  exact .inr ⟨o, #[], n, l, c1, c2, (by show 0 ≤ sizeLine; exact Nat.zero_le _), .nil⟩
end My

namespace My
open PySem PySem.Spec PyProof.Rows L2 Gy Xl Xs Xt Xo Xp Xu Xd
theorem xb_mk {K : PySem.W.Frag} {x qual : Str} {st : Stmt} {f : Addr} {fd : FuncData} {ps ks : List Str} {g : List Value → List Value → List Value} {gV : List V → List V → List V} (F : Fun K x qual st f fd)
    (rel : ∀ {vs : List V} {us : List Value} {zs : List V} {ws : List Value}, Vals vs us → Vals zs ws → Vals (gV vs zs) (g us ws))
    (h : ∀ (kV doc pm : Value) (an : Option Addr) (cdv ct : Value) (b : Value) (us ws : List Value), (b :: g us ws).length = ps.length →
      bindArgs (PySem.W.fnOf x qual (defArgs st) (defBody st) (defScope st) .none kV doc pm an cdv ct) ⟨b :: us, ks.zip ws⟩ = pure (ps.zip (b :: g us ws))) : XB K fd ps ks g gV := by
  obtain ⟨oc, od, kV, doc, pm, an, cdv, ct, osl, rfl, lk, hcd⟩ := F.ex
  exact ⟨fun s b us ws _ hl => .of_eq (h kV doc pm an cdv ct b us ws hl), rel⟩
abbrev sI_InvalidWord : Stmt := inClass (top 4) 0
theorem scI_InvalidWord : FnScope ["self", "value"] ["self", "value"] (defScope sI_InvalidWord) := ⟨rfl, rfl, rfl, by decide +kernel, rfl, by decide +kernel, by decide +kernel⟩
theorem raw_InvalidWord {K : PySem.W.Frag} {c fI : Addr} {od an : Option Addr} {sl : Array (Option Value)} {oc kV dc pm cdv ct : Value}
    (ii : PySem.W.excInitIn K c [.type "ValueError", .type "Exception", .type "BaseException", .type "object"] "ValueError.__new__" = true) (ov : PySem.W.excOver K c [.type "ValueError", .type "Exception", .type "BaseException", .type "object"] = true) (sa : PySem.W.findIn K (.ref c) "__setattr__" = some (some (.builtin "object.__setattr__")))
    (ga : PySem.W.findIn K (.ref c) "__getattribute__" = some (some (.builtin "BaseException.__getattribute__"))) (gg : PySem.W.findIn K (.ref c) "__getattr__" = some none) (ca : PySem.W.findIn K (.ref c) "__class__" = some (some (.builtin "object.__class__")))
    (ex : PySem.W.subIn K (.ref c) (.type "BaseException") = some true) (ob : PySem.W.mroIn K c (.type "object") = some true) (hd : PySem.W.hasDictIn K c = true) (kp : PySem.W.keepIn K (.ref c) = true)
    (ty : PySem.W.typeIn K (.ref c) = some (.type "type")) (ini : PySem.W.findIn K (.ref c) "__init__" = some (some (.ref fI))) (tf : PySem.W.typeIn K (.ref fI) = some (.type "function"))
    (li : K.lookup fI = some ⟨oc, od, .func (PySem.W.fnOf "__init__" "InvalidWord.__init__" (defArgs sI_InvalidWord) (defBody sI_InvalidWord) (defScope sI_InvalidWord) .none kV dc pm an cdv ct), sl⟩) (ci : PySem.W.codeIn K cdv "InvalidWord.__init__" = true) (ki : PySem.W.keepIn K (.ref fI) = true)
    (n0 : PySem.W.findIn K (.ref c) "value" = some none) : XCl K c ∧ ∀ (P : Program) (w : World) (mg : Str → Option Value) (base : Heap), mg "InvalidWord" = some (.ref c) → Rz P w K mg base "InvalidWord" "value" c := by
  have X : XCl K c := ⟨⟨_, _, _, _, PySem.F.excBase_ValueError, PySem.F.store_ValueError, ii, ov⟩, sa, ga, gg, ca, ex, ob, hd, kp⟩
  refine ⟨X, fun P w mg base gm => ?_⟩
  have F := fun_mk (st := sI_InvalidWord) li ci ki
  refine ⟨gm, ty, fI, _, ⟨X, ini, tf⟩, ?_, xb_mk F (fun r _ => r) fun _ _ _ _ _ _ b us ws hl => match us, hl with | [_], _ => rfl⟩
  refine F.ok scI_InvalidWord (fun vs H Q E h => ?_) (fun cdv A outer s H vs Q E hr h => ?_)
  · obtain ⟨a, v, rfl, _⟩ := h
    rfl
  · obtain ⟨a, v, rfl, ha, q⟩ := h
    exact ⟨_, pss_one (ps_xs (pv 0) (pv 1)), v, rfl, .ref a, rfl, a, c, rfl, X, n0, .inl ⟨ha, fun dx n ne => q dx n ne⟩⟩
abbrev sI_InvalidName : Stmt := inClass (top 3) 0
theorem scI_InvalidName : FnScope ["self", "value"] ["self", "value"] (defScope sI_InvalidName) := ⟨rfl, rfl, rfl, by decide +kernel, rfl, by decide +kernel, by decide +kernel⟩
theorem raw_InvalidName {K : PySem.W.Frag} {c fI : Addr} {od an : Option Addr} {sl : Array (Option Value)} {oc kV dc pm cdv ct : Value}
    (ii : PySem.W.excInitIn K c [.type "ValueError", .type "Exception", .type "BaseException", .type "object"] "ValueError.__new__" = true) (ov : PySem.W.excOver K c [.type "ValueError", .type "Exception", .type "BaseException", .type "object"] = true) (sa : PySem.W.findIn K (.ref c) "__setattr__" = some (some (.builtin "object.__setattr__")))
    (ga : PySem.W.findIn K (.ref c) "__getattribute__" = some (some (.builtin "BaseException.__getattribute__"))) (gg : PySem.W.findIn K (.ref c) "__getattr__" = some none) (ca : PySem.W.findIn K (.ref c) "__class__" = some (some (.builtin "object.__class__")))
    (ex : PySem.W.subIn K (.ref c) (.type "BaseException") = some true) (ob : PySem.W.mroIn K c (.type "object") = some true) (hd : PySem.W.hasDictIn K c = true) (kp : PySem.W.keepIn K (.ref c) = true)
    (ty : PySem.W.typeIn K (.ref c) = some (.type "type")) (ini : PySem.W.findIn K (.ref c) "__init__" = some (some (.ref fI))) (tf : PySem.W.typeIn K (.ref fI) = some (.type "function"))
    (li : K.lookup fI = some ⟨oc, od, .func (PySem.W.fnOf "__init__" "InvalidName.__init__" (defArgs sI_InvalidName) (defBody sI_InvalidName) (defScope sI_InvalidName) .none kV dc pm an cdv ct), sl⟩) (ci : PySem.W.codeIn K cdv "InvalidName.__init__" = true) (ki : PySem.W.keepIn K (.ref fI) = true)
    (n0 : PySem.W.findIn K (.ref c) "value" = some none) : XCl K c ∧ ∀ (P : Program) (w : World) (mg : Str → Option Value) (base : Heap), mg "InvalidName" = some (.ref c) → Rz P w K mg base "InvalidName" "value" c := by
  have X : XCl K c := ⟨⟨_, _, _, _, PySem.F.excBase_ValueError, PySem.F.store_ValueError, ii, ov⟩, sa, ga, gg, ca, ex, ob, hd, kp⟩
  refine ⟨X, fun P w mg base gm => ?_⟩
  have F := fun_mk (st := sI_InvalidName) li ci ki
  refine ⟨gm, ty, fI, _, ⟨X, ini, tf⟩, ?_, xb_mk F (fun r _ => r) fun _ _ _ _ _ _ b us ws hl => match us, hl with | [_], _ => rfl⟩
  refine F.ok scI_InvalidName (fun vs H Q E h => ?_) (fun cdv A outer s H vs Q E hr h => ?_)
  · obtain ⟨a, v, rfl, _⟩ := h
    rfl
  · obtain ⟨a, v, rfl, ha, q⟩ := h
    exact ⟨_, pss_one (ps_xs (pv 0) (pv 1)), v, rfl, .ref a, rfl, a, c, rfl, X, n0, .inl ⟨ha, fun dx n ne => q dx n ne⟩⟩
abbrev sI_InvalidItem : Stmt := inClass (top 6) 0
theorem scI_InvalidItem : FnScope ["self", "value"] ["self", "value"] (defScope sI_InvalidItem) := ⟨rfl, rfl, rfl, by decide +kernel, rfl, by decide +kernel, by decide +kernel⟩
theorem raw_InvalidItem {K : PySem.W.Frag} {c fI : Addr} {od an : Option Addr} {sl : Array (Option Value)} {oc kV dc pm cdv ct : Value}
    (ii : PySem.W.excInitIn K c [.type "ValueError", .type "Exception", .type "BaseException", .type "object"] "ValueError.__new__" = true) (ov : PySem.W.excOver K c [.type "ValueError", .type "Exception", .type "BaseException", .type "object"] = true) (sa : PySem.W.findIn K (.ref c) "__setattr__" = some (some (.builtin "object.__setattr__")))
    (ga : PySem.W.findIn K (.ref c) "__getattribute__" = some (some (.builtin "BaseException.__getattribute__"))) (gg : PySem.W.findIn K (.ref c) "__getattr__" = some none) (ca : PySem.W.findIn K (.ref c) "__class__" = some (some (.builtin "object.__class__")))
    (ex : PySem.W.subIn K (.ref c) (.type "BaseException") = some true) (ob : PySem.W.mroIn K c (.type "object") = some true) (hd : PySem.W.hasDictIn K c = true) (kp : PySem.W.keepIn K (.ref c) = true)
    (ty : PySem.W.typeIn K (.ref c) = some (.type "type")) (ini : PySem.W.findIn K (.ref c) "__init__" = some (some (.ref fI))) (tf : PySem.W.typeIn K (.ref fI) = some (.type "function"))
    (li : K.lookup fI = some ⟨oc, od, .func (PySem.W.fnOf "__init__" "InvalidItem.__init__" (defArgs sI_InvalidItem) (defBody sI_InvalidItem) (defScope sI_InvalidItem) .none kV dc pm an cdv ct), sl⟩) (ci : PySem.W.codeIn K cdv "InvalidItem.__init__" = true) (ki : PySem.W.keepIn K (.ref fI) = true)
    (n0 : PySem.W.findIn K (.ref c) "value" = some none) : XCl K c ∧ ∀ (P : Program) (w : World) (mg : Str → Option Value) (base : Heap), mg "InvalidItem" = some (.ref c) → Rz P w K mg base "InvalidItem" "value" c := by
  have X : XCl K c := ⟨⟨_, _, _, _, PySem.F.excBase_ValueError, PySem.F.store_ValueError, ii, ov⟩, sa, ga, gg, ca, ex, ob, hd, kp⟩
  refine ⟨X, fun P w mg base gm => ?_⟩
  have F := fun_mk (st := sI_InvalidItem) li ci ki
  refine ⟨gm, ty, fI, _, ⟨X, ini, tf⟩, ?_, xb_mk F (fun r _ => r) fun _ _ _ _ _ _ b us ws hl => match us, hl with | [_], _ => rfl⟩
  refine F.ok scI_InvalidItem (fun vs H Q E h => ?_) (fun cdv A outer s H vs Q E hr h => ?_)
  · obtain ⟨a, v, rfl, _⟩ := h
    rfl
  · obtain ⟨a, v, rfl, ha, q⟩ := h
    exact ⟨_, pss_one (ps_xs (pv 0) (pv 1)), v, rfl, .ref a, rfl, a, c, rfl, X, n0, .inl ⟨ha, fun dx n ne => q dx n ne⟩⟩
abbrev sI_InvalidRelink : Stmt := inClass (top 5) 0
theorem scI_InvalidRelink : FnScope ["self", "value"] ["self", "value"] (defScope sI_InvalidRelink) := ⟨rfl, rfl, rfl, by decide +kernel, rfl, by decide +kernel, by decide +kernel⟩
theorem raw_InvalidRelink {K : PySem.W.Frag} {c fI : Addr} {od an : Option Addr} {sl : Array (Option Value)} {oc kV dc pm cdv ct : Value}
    (ii : PySem.W.excInitIn K c [.type "ValueError", .type "Exception", .type "BaseException", .type "object"] "ValueError.__new__" = true) (ov : PySem.W.excOver K c [.type "ValueError", .type "Exception", .type "BaseException", .type "object"] = true) (sa : PySem.W.findIn K (.ref c) "__setattr__" = some (some (.builtin "object.__setattr__")))
    (ga : PySem.W.findIn K (.ref c) "__getattribute__" = some (some (.builtin "BaseException.__getattribute__"))) (gg : PySem.W.findIn K (.ref c) "__getattr__" = some none) (ca : PySem.W.findIn K (.ref c) "__class__" = some (some (.builtin "object.__class__")))
    (ex : PySem.W.subIn K (.ref c) (.type "BaseException") = some true) (ob : PySem.W.mroIn K c (.type "object") = some true) (hd : PySem.W.hasDictIn K c = true) (kp : PySem.W.keepIn K (.ref c) = true)
    (ty : PySem.W.typeIn K (.ref c) = some (.type "type")) (ini : PySem.W.findIn K (.ref c) "__init__" = some (some (.ref fI))) (tf : PySem.W.typeIn K (.ref fI) = some (.type "function"))
    (li : K.lookup fI = some ⟨oc, od, .func (PySem.W.fnOf "__init__" "InvalidRelink.__init__" (defArgs sI_InvalidRelink) (defBody sI_InvalidRelink) (defScope sI_InvalidRelink) .none kV dc pm an cdv ct), sl⟩) (ci : PySem.W.codeIn K cdv "InvalidRelink.__init__" = true) (ki : PySem.W.keepIn K (.ref fI) = true)
    (n0 : PySem.W.findIn K (.ref c) "value" = some none) : XCl K c ∧ ∀ (P : Program) (w : World) (mg : Str → Option Value) (base : Heap), mg "InvalidRelink" = some (.ref c) → Rz P w K mg base "InvalidRelink" "value" c := by
  have X : XCl K c := ⟨⟨_, _, _, _, PySem.F.excBase_ValueError, PySem.F.store_ValueError, ii, ov⟩, sa, ga, gg, ca, ex, ob, hd, kp⟩
  refine ⟨X, fun P w mg base gm => ?_⟩
  have F := fun_mk (st := sI_InvalidRelink) li ci ki
  refine ⟨gm, ty, fI, _, ⟨X, ini, tf⟩, ?_, xb_mk F (fun r _ => r) fun _ _ _ _ _ _ b us ws hl => match us, hl with | [_], _ => rfl⟩
  refine F.ok scI_InvalidRelink (fun vs H Q E h => ?_) (fun cdv A outer s H vs Q E hr h => ?_)
  · obtain ⟨a, v, rfl, _⟩ := h
    rfl
  · obtain ⟨a, v, rfl, ha, q⟩ := h
    exact ⟨_, pss_one (ps_xs (pv 0) (pv 1)), v, rfl, .ref a, rfl, a, c, rfl, X, n0, .inl ⟨ha, fun dx n ne => q dx n ne⟩⟩
abbrev sI_NameTaken : Stmt := inClass (top 11) 0
theorem scI_NameTaken : FnScope ["self", "value"] ["self", "value"] (defScope sI_NameTaken) := ⟨rfl, rfl, rfl, by decide +kernel, rfl, by decide +kernel, by decide +kernel⟩
theorem raw_NameTaken {K : PySem.W.Frag} {c fI : Addr} {od an : Option Addr} {sl : Array (Option Value)} {oc kV dc pm cdv ct : Value}
    (ii : PySem.W.excInitIn K c [.type "RuntimeError", .type "Exception", .type "BaseException", .type "object"] "RuntimeError.__new__" = true) (ov : PySem.W.excOver K c [.type "RuntimeError", .type "Exception", .type "BaseException", .type "object"] = true) (sa : PySem.W.findIn K (.ref c) "__setattr__" = some (some (.builtin "object.__setattr__")))
    (ga : PySem.W.findIn K (.ref c) "__getattribute__" = some (some (.builtin "BaseException.__getattribute__"))) (gg : PySem.W.findIn K (.ref c) "__getattr__" = some none) (ca : PySem.W.findIn K (.ref c) "__class__" = some (some (.builtin "object.__class__")))
    (ex : PySem.W.subIn K (.ref c) (.type "BaseException") = some true) (ob : PySem.W.mroIn K c (.type "object") = some true) (hd : PySem.W.hasDictIn K c = true) (kp : PySem.W.keepIn K (.ref c) = true)
    (ty : PySem.W.typeIn K (.ref c) = some (.type "type")) (ini : PySem.W.findIn K (.ref c) "__init__" = some (some (.ref fI))) (tf : PySem.W.typeIn K (.ref fI) = some (.type "function"))
    (li : K.lookup fI = some ⟨oc, od, .func (PySem.W.fnOf "__init__" "NameTaken.__init__" (defArgs sI_NameTaken) (defBody sI_NameTaken) (defScope sI_NameTaken) .none kV dc pm an cdv ct), sl⟩) (ci : PySem.W.codeIn K cdv "NameTaken.__init__" = true) (ki : PySem.W.keepIn K (.ref fI) = true)
    (n0 : PySem.W.findIn K (.ref c) "value" = some none) : XCl K c ∧ ∀ (P : Program) (w : World) (mg : Str → Option Value) (base : Heap), mg "NameTaken" = some (.ref c) → Rz P w K mg base "NameTaken" "value" c := by
  have X : XCl K c := ⟨⟨_, _, _, _, PySem.F.excBase_RuntimeError, PySem.F.store_RuntimeError, ii, ov⟩, sa, ga, gg, ca, ex, ob, hd, kp⟩
  refine ⟨X, fun P w mg base gm => ?_⟩
  have F := fun_mk (st := sI_NameTaken) li ci ki
  refine ⟨gm, ty, fI, _, ⟨X, ini, tf⟩, ?_, xb_mk F (fun r _ => r) fun _ _ _ _ _ _ b us ws hl => match us, hl with | [_], _ => rfl⟩
  refine F.ok scI_NameTaken (fun vs H Q E h => ?_) (fun cdv A outer s H vs Q E hr h => ?_)
  · obtain ⟨a, v, rfl, _⟩ := h
    rfl
  · obtain ⟨a, v, rfl, ha, q⟩ := h
    exact ⟨_, pss_one (ps_xs (pv 0) (pv 1)), v, rfl, .ref a, rfl, a, c, rfl, X, n0, .inl ⟨ha, fun dx n ne => q dx n ne⟩⟩
abbrev sI_UnknownHost : Stmt := inClass (top 8) 0
theorem scI_UnknownHost : FnScope ["self", "host"] ["self", "host"] (defScope sI_UnknownHost) := ⟨rfl, rfl, rfl, by decide +kernel, rfl, by decide +kernel, by decide +kernel⟩
theorem raw_UnknownHost {K : PySem.W.Frag} {c fI : Addr} {od an : Option Addr} {sl : Array (Option Value)} {oc kV dc pm cdv ct : Value}
    (ii : PySem.W.excInitIn K c [.type "LookupError", .type "Exception", .type "BaseException", .type "object"] "LookupError.__new__" = true) (ov : PySem.W.excOver K c [.type "LookupError", .type "Exception", .type "BaseException", .type "object"] = true) (sa : PySem.W.findIn K (.ref c) "__setattr__" = some (some (.builtin "object.__setattr__")))
    (ga : PySem.W.findIn K (.ref c) "__getattribute__" = some (some (.builtin "BaseException.__getattribute__"))) (gg : PySem.W.findIn K (.ref c) "__getattr__" = some none) (ca : PySem.W.findIn K (.ref c) "__class__" = some (some (.builtin "object.__class__")))
    (ex : PySem.W.subIn K (.ref c) (.type "BaseException") = some true) (ob : PySem.W.mroIn K c (.type "object") = some true) (hd : PySem.W.hasDictIn K c = true) (kp : PySem.W.keepIn K (.ref c) = true)
    (ty : PySem.W.typeIn K (.ref c) = some (.type "type")) (ini : PySem.W.findIn K (.ref c) "__init__" = some (some (.ref fI))) (tf : PySem.W.typeIn K (.ref fI) = some (.type "function"))
    (li : K.lookup fI = some ⟨oc, od, .func (PySem.W.fnOf "__init__" "UnknownHost.__init__" (defArgs sI_UnknownHost) (defBody sI_UnknownHost) (defScope sI_UnknownHost) .none kV dc pm an cdv ct), sl⟩) (ci : PySem.W.codeIn K cdv "UnknownHost.__init__" = true) (ki : PySem.W.keepIn K (.ref fI) = true)
    (n0 : PySem.W.findIn K (.ref c) "host" = some none) : XCl K c ∧ ∀ (P : Program) (w : World) (mg : Str → Option Value) (base : Heap), mg "UnknownHost" = some (.ref c) → Rz P w K mg base "UnknownHost" "host" c := by
  have X : XCl K c := ⟨⟨_, _, _, _, PySem.F.excBase_LookupError, PySem.F.store_LookupError, ii, ov⟩, sa, ga, gg, ca, ex, ob, hd, kp⟩
  refine ⟨X, fun P w mg base gm => ?_⟩
  have F := fun_mk (st := sI_UnknownHost) li ci ki
  refine ⟨gm, ty, fI, _, ⟨X, ini, tf⟩, ?_, xb_mk F (fun r _ => r) fun _ _ _ _ _ _ b us ws hl => match us, hl with | [_], _ => rfl⟩
  refine F.ok scI_UnknownHost (fun vs H Q E h => ?_) (fun cdv A outer s H vs Q E hr h => ?_)
  · obtain ⟨a, v, rfl, _⟩ := h
    rfl
  · obtain ⟨a, v, rfl, ha, q⟩ := h
    exact ⟨_, pss_one (ps_xs (pv 0) (pv 1)), v, rfl, .ref a, rfl, a, c, rfl, X, n0, .inl ⟨ha, fun dx n ne => q dx n ne⟩⟩

theorem no_ok {P : Program} {w : World} {K : PySem.W.Frag} {mg : Str → Option Value} {base : Heap} {f : Addr} {fd : FuncData} {ps : List Str} : FnOk P w K mg base CX0 1 f fd ps spNo := ⟨fun _ _ _ _ h => h.elim, fun _ _ _ _ _ _ _ _ _ _ _ _ _ h => h.elim⟩
theorem all_mk {l : PySem.W.OpenLaw} {w : World} {K : PySem.W.Frag} {h : Heap} {mg : Str → Option Value} {fa f_is_integer_from f_is_index f_is_text_of f_is_host_name f_is_word f_is_relink_path f_is_cut_of f_is_relink f_check_relink f_position f_end_bit f_forward_bit f_forwards f_are_message_parts f_is_control_kind f_is_item f_check_item f_law_pot f_law_draw f_law_choose f_law_name f_law_tree f_law_near f_law_new f_law_awaited f_law_bit f_law_spread f_law_unlinked f_law_linked f_law_asked f_law_freed f_law_finished f_law_refused f_law_agreed f_law_gone_on f_law_received f_law_shown f_law_agrees f_law_world f_law_posted f_law_busy f_law_acted f_law_delivered f_law_wrote f_law_noted f_law_at_rest f_law_causal f_law_joined f_law_step f_law_tree_of f_law_end_right f_law c_InvalidWord c_InvalidName c_InvalidItem c_InvalidRelink c_NameTaken c_UnknownHost : Addr} {ck dkI eTI : Addr} {o_ck o_eTI : Obj} {c_Host : Addr} {fTm_init : Addr} {odTm_init anTm_init : Option Addr} {slTm_init : Array (Option Value)} {ocTm_init kVTm_init dcTm_init pmTm_init cdTm_init ctTm_init : Value} {fTm_name : Addr} {odTm_name anTm_name : Option Addr} {slTm_name : Array (Option Value)} {ocTm_name kVTm_name dcTm_name pmTm_name cdTm_name ctTm_name : Value} {fTm_log : Addr} {odTm_log anTm_log : Option Addr} {slTm_log : Array (Option Value)} {ocTm_log kVTm_log dcTm_log pmTm_log cdTm_log ctTm_log : Value} {fTm_links : Addr} {odTm_links anTm_links : Option Addr} {slTm_links : Array (Option Value)} {ocTm_links kVTm_links dcTm_links pmTm_links cdTm_links ctTm_links : Value} {fTm_answers : Addr} {odTm_answers anTm_answers : Option Addr} {slTm_answers : Array (Option Value)} {ocTm_answers kVTm_answers dcTm_answers pmTm_answers cdTm_answers ctTm_answers : Value} {fTm_relink : Addr} {odTm_relink anTm_relink : Option Addr} {slTm_relink : Array (Option Value)} {ocTm_relink kVTm_relink dcTm_relink pmTm_relink cdTm_relink ctTm_relink : Value} {fTm_phase : Addr} {odTm_phase anTm_phase : Option Addr} {slTm_phase : Array (Option Value)} {ocTm_phase kVTm_phase dcTm_phase pmTm_phase cdTm_phase ctTm_phase : Value} {fTm_queue : Addr} {odTm_queue anTm_queue : Option Addr} {slTm_queue : Array (Option Value)} {ocTm_queue kVTm_queue dcTm_queue pmTm_queue cdTm_queue ctTm_queue : Value} {fTm_waits_for : Addr} {odTm_waits_for anTm_waits_for : Option Addr} {slTm_waits_for : Array (Option Value)} {ocTm_waits_for kVTm_waits_for dcTm_waits_for pmTm_waits_for cdTm_waits_for ctTm_waits_for : Value} {fTm_write : Addr} {odTm_write anTm_write : Option Addr} {slTm_write : Array (Option Value)} {ocTm_write kVTm_write dcTm_write pmTm_write cdTm_write ctTm_write : Value} {fTm_receive : Addr} {odTm_receive anTm_receive : Option Addr} {slTm_receive : Array (Option Value)} {ocTm_receive kVTm_receive dcTm_receive pmTm_receive cdTm_receive ctTm_receive : Value} {fTm_add_link : Addr} {odTm_add_link anTm_add_link : Option Addr} {slTm_add_link : Array (Option Value)} {ocTm_add_link kVTm_add_link dcTm_add_link pmTm_add_link cdTm_add_link ctTm_add_link : Value} {fTm_join_to : Addr} {odTm_join_to anTm_join_to : Option Addr} {slTm_join_to : Array (Option Value)} {ocTm_join_to kVTm_join_to dcTm_join_to pmTm_join_to cdTm_join_to ctTm_join_to : Value} {fTm_log_and_forward : Addr} {odTm_log_and_forward anTm_log_and_forward : Option Addr} {slTm_log_and_forward : Array (Option Value)} {ocTm_log_and_forward kVTm_log_and_forward dcTm_log_and_forward pmTm_log_and_forward cdTm_log_and_forward ctTm_log_and_forward : Value} {TTm_log_and_forward : Addr} {oTTm_log_and_forward : Obj} {fTm_accept : Addr} {odTm_accept anTm_accept : Option Addr} {slTm_accept : Array (Option Value)} {ocTm_accept kVTm_accept dcTm_accept pmTm_accept cdTm_accept ctTm_accept : Value} {fTm_accept_bye : Addr} {odTm_accept_bye anTm_accept_bye : Option Addr} {slTm_accept_bye : Array (Option Value)} {ocTm_accept_bye kVTm_accept_bye dcTm_accept_bye pmTm_accept_bye cdTm_accept_bye ctTm_accept_bye : Value} {fTm_can_join : Addr} {odTm_can_join anTm_can_join : Option Addr} {slTm_can_join : Array (Option Value)} {ocTm_can_join kVTm_can_join dcTm_can_join pmTm_can_join cdTm_can_join ctTm_can_join : Value} {fTm_act : Addr} {odTm_act anTm_act : Option Addr} {slTm_act : Array (Option Value)} {ocTm_act kVTm_act dcTm_act pmTm_act cdTm_act ctTm_act : Value} (X : K.In h) (G : h.Ns mainGlobals mg) (hfa : mg "law" = some (.ref fa))
    {od_is_integer_from od_is_index od_is_text_of od_is_host_name od_is_word od_is_relink_path od_is_cut_of od_is_relink od_check_relink od_position od_end_bit od_forward_bit od_forwards od_are_message_parts od_is_control_kind od_is_item od_check_item od_law_pot od_law_draw od_law_choose od_law_name od_law_tree od_law_near od_law_new od_law_awaited od_law_bit od_law_spread od_law_unlinked od_law_linked od_law_asked od_law_freed od_law_finished od_law_refused od_law_agreed od_law_gone_on od_law_received od_law_shown od_law_agrees od_law_world od_law_posted od_law_busy od_law_acted od_law_delivered od_law_wrote od_law_noted od_law_at_rest od_law_causal od_law_joined od_law_step od_law_tree_of od_law_end_right od_law an_is_integer_from an_is_index an_is_text_of an_is_host_name an_is_word an_is_relink_path an_is_cut_of an_is_relink an_check_relink an_position an_end_bit an_forward_bit an_forwards an_are_message_parts an_is_control_kind an_is_item an_check_item an_law_pot an_law_draw an_law_choose an_law_name an_law_tree an_law_near an_law_new an_law_awaited an_law_bit an_law_spread an_law_unlinked an_law_linked an_law_asked an_law_freed an_law_finished an_law_refused an_law_agreed an_law_gone_on an_law_received an_law_shown an_law_agrees an_law_world an_law_posted an_law_busy an_law_acted an_law_delivered an_law_wrote an_law_noted an_law_at_rest an_law_causal an_law_joined an_law_step an_law_tree_of an_law_end_right an_law : Option Addr} {sl_is_integer_from sl_is_index sl_is_text_of sl_is_host_name sl_is_word sl_is_relink_path sl_is_cut_of sl_is_relink sl_check_relink sl_position sl_end_bit sl_forward_bit sl_forwards sl_are_message_parts sl_is_control_kind sl_is_item sl_check_item sl_law_pot sl_law_draw sl_law_choose sl_law_name sl_law_tree sl_law_near sl_law_new sl_law_awaited sl_law_bit sl_law_spread sl_law_unlinked sl_law_linked sl_law_asked sl_law_freed sl_law_finished sl_law_refused sl_law_agreed sl_law_gone_on sl_law_received sl_law_shown sl_law_agrees sl_law_world sl_law_posted sl_law_busy sl_law_acted sl_law_delivered sl_law_wrote sl_law_noted sl_law_at_rest sl_law_causal sl_law_joined sl_law_step sl_law_tree_of sl_law_end_right sl_law : Array (Option Value)} {oc_is_integer_from oc_is_index oc_is_text_of oc_is_host_name oc_is_word oc_is_relink_path oc_is_cut_of oc_is_relink oc_check_relink oc_position oc_end_bit oc_forward_bit oc_forwards oc_are_message_parts oc_is_control_kind oc_is_item oc_check_item oc_law_pot oc_law_draw oc_law_choose oc_law_name oc_law_tree oc_law_near oc_law_new oc_law_awaited oc_law_bit oc_law_spread oc_law_unlinked oc_law_linked oc_law_asked oc_law_freed oc_law_finished oc_law_refused oc_law_agreed oc_law_gone_on oc_law_received oc_law_shown oc_law_agrees oc_law_world oc_law_posted oc_law_busy oc_law_acted oc_law_delivered oc_law_wrote oc_law_noted oc_law_at_rest oc_law_causal oc_law_joined oc_law_step oc_law_tree_of oc_law_end_right oc_law kV_is_integer_from kV_is_index kV_is_text_of kV_is_host_name kV_is_word kV_is_relink_path kV_is_cut_of kV_is_relink kV_check_relink kV_position kV_end_bit kV_forward_bit kV_forwards kV_are_message_parts kV_is_control_kind kV_is_item kV_check_item kV_law_pot kV_law_draw kV_law_choose kV_law_name kV_law_tree kV_law_near kV_law_new kV_law_awaited kV_law_bit kV_law_spread kV_law_unlinked kV_law_linked kV_law_asked kV_law_freed kV_law_finished kV_law_refused kV_law_agreed kV_law_gone_on kV_law_received kV_law_shown kV_law_agrees kV_law_world kV_law_posted kV_law_busy kV_law_acted kV_law_delivered kV_law_wrote kV_law_noted kV_law_at_rest kV_law_causal kV_law_joined kV_law_step kV_law_tree_of kV_law_end_right kV_law dc_is_integer_from dc_is_index dc_is_text_of dc_is_host_name dc_is_word dc_is_relink_path dc_is_cut_of dc_is_relink dc_check_relink dc_position dc_end_bit dc_forward_bit dc_forwards dc_are_message_parts dc_is_control_kind dc_is_item dc_check_item dc_law_pot dc_law_draw dc_law_choose dc_law_name dc_law_tree dc_law_near dc_law_new dc_law_awaited dc_law_bit dc_law_spread dc_law_unlinked dc_law_linked dc_law_asked dc_law_freed dc_law_finished dc_law_refused dc_law_agreed dc_law_gone_on dc_law_received dc_law_shown dc_law_agrees dc_law_world dc_law_posted dc_law_busy dc_law_acted dc_law_delivered dc_law_wrote dc_law_noted dc_law_at_rest dc_law_causal dc_law_joined dc_law_step dc_law_tree_of dc_law_end_right dc_law pm_is_integer_from pm_is_index pm_is_text_of pm_is_host_name pm_is_word pm_is_relink_path pm_is_cut_of pm_is_relink pm_check_relink pm_position pm_end_bit pm_forward_bit pm_forwards pm_are_message_parts pm_is_control_kind pm_is_item pm_check_item pm_law_pot pm_law_draw pm_law_choose pm_law_name pm_law_tree pm_law_near pm_law_new pm_law_awaited pm_law_bit pm_law_spread pm_law_unlinked pm_law_linked pm_law_asked pm_law_freed pm_law_finished pm_law_refused pm_law_agreed pm_law_gone_on pm_law_received pm_law_shown pm_law_agrees pm_law_world pm_law_posted pm_law_busy pm_law_acted pm_law_delivered pm_law_wrote pm_law_noted pm_law_at_rest pm_law_causal pm_law_joined pm_law_step pm_law_tree_of pm_law_end_right pm_law cd_is_integer_from cd_is_index cd_is_text_of cd_is_host_name cd_is_word cd_is_relink_path cd_is_cut_of cd_is_relink cd_check_relink cd_position cd_end_bit cd_forward_bit cd_forwards cd_are_message_parts cd_is_control_kind cd_is_item cd_check_item cd_law_pot cd_law_draw cd_law_choose cd_law_name cd_law_tree cd_law_near cd_law_new cd_law_awaited cd_law_bit cd_law_spread cd_law_unlinked cd_law_linked cd_law_asked cd_law_freed cd_law_finished cd_law_refused cd_law_agreed cd_law_gone_on cd_law_received cd_law_shown cd_law_agrees cd_law_world cd_law_posted cd_law_busy cd_law_acted cd_law_delivered cd_law_wrote cd_law_noted cd_law_at_rest cd_law_causal cd_law_joined cd_law_step cd_law_tree_of cd_law_end_right cd_law ct_is_integer_from ct_is_index ct_is_text_of ct_is_host_name ct_is_word ct_is_relink_path ct_is_cut_of ct_is_relink ct_check_relink ct_position ct_end_bit ct_forward_bit ct_forwards ct_are_message_parts ct_is_control_kind ct_is_item ct_check_item ct_law_pot ct_law_draw ct_law_choose ct_law_name ct_law_tree ct_law_near ct_law_new ct_law_awaited ct_law_bit ct_law_spread ct_law_unlinked ct_law_linked ct_law_asked ct_law_freed ct_law_finished ct_law_refused ct_law_agreed ct_law_gone_on ct_law_received ct_law_shown ct_law_agrees ct_law_world ct_law_posted ct_law_busy ct_law_acted ct_law_delivered ct_law_wrote ct_law_noted ct_law_at_rest ct_law_causal ct_law_joined ct_law_step ct_law_tree_of ct_law_end_right ct_law : Value}
    {t_LETTERS t_DIGITS t_LONGEST_NAME t_LONGEST_WORD t_SHORTEST_PATH t_MESSAGE t_BYE t_BITS : Tok}
    (a_is_integer_from : PySem.W.nsIn K mainGlobals "is_integer_from" = some (some (.ref f_is_integer_from))) (l_is_integer_from : K.lookup f_is_integer_from = some ⟨oc_is_integer_from, od_is_integer_from, .func (PySem.W.fnOf "is_integer_from" "is_integer_from" (defArgs s_is_integer_from) (defBody s_is_integer_from) (defScope s_is_integer_from) .none kV_is_integer_from dc_is_integer_from pm_is_integer_from an_is_integer_from cd_is_integer_from ct_is_integer_from), sl_is_integer_from⟩) (co_is_integer_from : PySem.W.codeIn K cd_is_integer_from "is_integer_from" = true) (k_is_integer_from : PySem.W.keepIn K (.ref f_is_integer_from) = true)
    (a_is_index : PySem.W.nsIn K mainGlobals "is_index" = some (some (.ref f_is_index))) (l_is_index : K.lookup f_is_index = some ⟨oc_is_index, od_is_index, .func (PySem.W.fnOf "is_index" "is_index" (defArgs s_is_index) (defBody s_is_index) (defScope s_is_index) .none kV_is_index dc_is_index pm_is_index an_is_index cd_is_index ct_is_index), sl_is_index⟩) (co_is_index : PySem.W.codeIn K cd_is_index "is_index" = true) (k_is_index : PySem.W.keepIn K (.ref f_is_index) = true)
    (a_is_text_of : PySem.W.nsIn K mainGlobals "is_text_of" = some (some (.ref f_is_text_of))) (l_is_text_of : K.lookup f_is_text_of = some ⟨oc_is_text_of, od_is_text_of, .func (PySem.W.fnOf "is_text_of" "is_text_of" (defArgs s_is_text_of) (defBody s_is_text_of) (defScope s_is_text_of) .none kV_is_text_of dc_is_text_of pm_is_text_of an_is_text_of cd_is_text_of ct_is_text_of), sl_is_text_of⟩) (co_is_text_of : PySem.W.codeIn K cd_is_text_of "is_text_of" = true) (k_is_text_of : PySem.W.keepIn K (.ref f_is_text_of) = true)
    (a_is_host_name : PySem.W.nsIn K mainGlobals "is_host_name" = some (some (.ref f_is_host_name))) (l_is_host_name : K.lookup f_is_host_name = some ⟨oc_is_host_name, od_is_host_name, .func (PySem.W.fnOf "is_host_name" "is_host_name" (defArgs s_is_host_name) (defBody s_is_host_name) (defScope s_is_host_name) .none kV_is_host_name dc_is_host_name pm_is_host_name an_is_host_name cd_is_host_name ct_is_host_name), sl_is_host_name⟩) (co_is_host_name : PySem.W.codeIn K cd_is_host_name "is_host_name" = true) (k_is_host_name : PySem.W.keepIn K (.ref f_is_host_name) = true)
    (a_is_word : PySem.W.nsIn K mainGlobals "is_word" = some (some (.ref f_is_word))) (l_is_word : K.lookup f_is_word = some ⟨oc_is_word, od_is_word, .func (PySem.W.fnOf "is_word" "is_word" (defArgs s_is_word) (defBody s_is_word) (defScope s_is_word) .none kV_is_word dc_is_word pm_is_word an_is_word cd_is_word ct_is_word), sl_is_word⟩) (co_is_word : PySem.W.codeIn K cd_is_word "is_word" = true) (k_is_word : PySem.W.keepIn K (.ref f_is_word) = true)
    (a_is_relink_path : PySem.W.nsIn K mainGlobals "is_relink_path" = some (some (.ref f_is_relink_path))) (l_is_relink_path : K.lookup f_is_relink_path = some ⟨oc_is_relink_path, od_is_relink_path, .func (PySem.W.fnOf "is_relink_path" "is_relink_path" (defArgs s_is_relink_path) (defBody s_is_relink_path) (defScope s_is_relink_path) .none kV_is_relink_path dc_is_relink_path pm_is_relink_path an_is_relink_path cd_is_relink_path ct_is_relink_path), sl_is_relink_path⟩) (co_is_relink_path : PySem.W.codeIn K cd_is_relink_path "is_relink_path" = true) (k_is_relink_path : PySem.W.keepIn K (.ref f_is_relink_path) = true)
    (a_is_cut_of : PySem.W.nsIn K mainGlobals "is_cut_of" = some (some (.ref f_is_cut_of))) (l_is_cut_of : K.lookup f_is_cut_of = some ⟨oc_is_cut_of, od_is_cut_of, .func (PySem.W.fnOf "is_cut_of" "is_cut_of" (defArgs s_is_cut_of) (defBody s_is_cut_of) (defScope s_is_cut_of) .none kV_is_cut_of dc_is_cut_of pm_is_cut_of an_is_cut_of cd_is_cut_of ct_is_cut_of), sl_is_cut_of⟩) (co_is_cut_of : PySem.W.codeIn K cd_is_cut_of "is_cut_of" = true) (k_is_cut_of : PySem.W.keepIn K (.ref f_is_cut_of) = true)
    (a_is_relink : PySem.W.nsIn K mainGlobals "is_relink" = some (some (.ref f_is_relink))) (l_is_relink : K.lookup f_is_relink = some ⟨oc_is_relink, od_is_relink, .func (PySem.W.fnOf "is_relink" "is_relink" (defArgs s_is_relink) (defBody s_is_relink) (defScope s_is_relink) .none kV_is_relink dc_is_relink pm_is_relink an_is_relink cd_is_relink ct_is_relink), sl_is_relink⟩) (co_is_relink : PySem.W.codeIn K cd_is_relink "is_relink" = true) (k_is_relink : PySem.W.keepIn K (.ref f_is_relink) = true)
    (a_check_relink : PySem.W.nsIn K mainGlobals "check_relink" = some (some (.ref f_check_relink))) (l_check_relink : K.lookup f_check_relink = some ⟨oc_check_relink, od_check_relink, .func (PySem.W.fnOf "check_relink" "check_relink" (defArgs s_check_relink) (defBody s_check_relink) (defScope s_check_relink) .none kV_check_relink dc_check_relink pm_check_relink an_check_relink cd_check_relink ct_check_relink), sl_check_relink⟩) (co_check_relink : PySem.W.codeIn K cd_check_relink "check_relink" = true) (k_check_relink : PySem.W.keepIn K (.ref f_check_relink) = true)
    (a_position : PySem.W.nsIn K mainGlobals "position" = some (some (.ref f_position))) (l_position : K.lookup f_position = some ⟨oc_position, od_position, .func (PySem.W.fnOf "position" "position" (defArgs s_position) (defBody s_position) (defScope s_position) .none kV_position dc_position pm_position an_position cd_position ct_position), sl_position⟩) (co_position : PySem.W.codeIn K cd_position "position" = true) (k_position : PySem.W.keepIn K (.ref f_position) = true)
    (a_end_bit : PySem.W.nsIn K mainGlobals "end_bit" = some (some (.ref f_end_bit))) (l_end_bit : K.lookup f_end_bit = some ⟨oc_end_bit, od_end_bit, .func (PySem.W.fnOf "end_bit" "end_bit" (defArgs s_end_bit) (defBody s_end_bit) (defScope s_end_bit) .none kV_end_bit dc_end_bit pm_end_bit an_end_bit cd_end_bit ct_end_bit), sl_end_bit⟩) (co_end_bit : PySem.W.codeIn K cd_end_bit "end_bit" = true) (k_end_bit : PySem.W.keepIn K (.ref f_end_bit) = true)
    (a_forward_bit : PySem.W.nsIn K mainGlobals "forward_bit" = some (some (.ref f_forward_bit))) (l_forward_bit : K.lookup f_forward_bit = some ⟨oc_forward_bit, od_forward_bit, .func (PySem.W.fnOf "forward_bit" "forward_bit" (defArgs s_forward_bit) (defBody s_forward_bit) (defScope s_forward_bit) .none kV_forward_bit dc_forward_bit pm_forward_bit an_forward_bit cd_forward_bit ct_forward_bit), sl_forward_bit⟩) (co_forward_bit : PySem.W.codeIn K cd_forward_bit "forward_bit" = true) (k_forward_bit : PySem.W.keepIn K (.ref f_forward_bit) = true)
    (a_forwards : PySem.W.nsIn K mainGlobals "forwards" = some (some (.ref f_forwards))) (l_forwards : K.lookup f_forwards = some ⟨oc_forwards, od_forwards, .func (PySem.W.fnOf "forwards" "forwards" (defArgs s_forwards) (defBody s_forwards) (defScope s_forwards) .none kV_forwards dc_forwards pm_forwards an_forwards cd_forwards ct_forwards), sl_forwards⟩) (co_forwards : PySem.W.codeIn K cd_forwards "forwards" = true) (k_forwards : PySem.W.keepIn K (.ref f_forwards) = true)
    (a_are_message_parts : PySem.W.nsIn K mainGlobals "are_message_parts" = some (some (.ref f_are_message_parts))) (l_are_message_parts : K.lookup f_are_message_parts = some ⟨oc_are_message_parts, od_are_message_parts, .func (PySem.W.fnOf "are_message_parts" "are_message_parts" (defArgs s_are_message_parts) (defBody s_are_message_parts) (defScope s_are_message_parts) .none kV_are_message_parts dc_are_message_parts pm_are_message_parts an_are_message_parts cd_are_message_parts ct_are_message_parts), sl_are_message_parts⟩) (co_are_message_parts : PySem.W.codeIn K cd_are_message_parts "are_message_parts" = true) (k_are_message_parts : PySem.W.keepIn K (.ref f_are_message_parts) = true)
    (a_is_control_kind : PySem.W.nsIn K mainGlobals "is_control_kind" = some (some (.ref f_is_control_kind))) (l_is_control_kind : K.lookup f_is_control_kind = some ⟨oc_is_control_kind, od_is_control_kind, .func (PySem.W.fnOf "is_control_kind" "is_control_kind" (defArgs s_is_control_kind) (defBody s_is_control_kind) (defScope s_is_control_kind) .none kV_is_control_kind dc_is_control_kind pm_is_control_kind an_is_control_kind cd_is_control_kind ct_is_control_kind), sl_is_control_kind⟩) (co_is_control_kind : PySem.W.codeIn K cd_is_control_kind "is_control_kind" = true) (k_is_control_kind : PySem.W.keepIn K (.ref f_is_control_kind) = true)
    (a_is_item : PySem.W.nsIn K mainGlobals "is_item" = some (some (.ref f_is_item))) (l_is_item : K.lookup f_is_item = some ⟨oc_is_item, od_is_item, .func (PySem.W.fnOf "is_item" "is_item" (defArgs s_is_item) (defBody s_is_item) (defScope s_is_item) .none kV_is_item dc_is_item pm_is_item an_is_item cd_is_item ct_is_item), sl_is_item⟩) (co_is_item : PySem.W.codeIn K cd_is_item "is_item" = true) (k_is_item : PySem.W.keepIn K (.ref f_is_item) = true)
    (a_check_item : PySem.W.nsIn K mainGlobals "check_item" = some (some (.ref f_check_item))) (l_check_item : K.lookup f_check_item = some ⟨oc_check_item, od_check_item, .func (PySem.W.fnOf "check_item" "check_item" (defArgs s_check_item) (defBody s_check_item) (defScope s_check_item) .none kV_check_item dc_check_item pm_check_item an_check_item cd_check_item ct_check_item), sl_check_item⟩) (co_check_item : PySem.W.codeIn K cd_check_item "check_item" = true) (k_check_item : PySem.W.keepIn K (.ref f_check_item) = true)
    (a_law_pot : PySem.W.nsIn K mainGlobals "_law_pot" = some (some (.ref f_law_pot))) (l_law_pot : K.lookup f_law_pot = some ⟨oc_law_pot, od_law_pot, .func (PySem.W.fnOf "_law_pot" "_law_pot" (defArgs s_law_pot) (defBody s_law_pot) (defScope s_law_pot) .none kV_law_pot dc_law_pot pm_law_pot an_law_pot cd_law_pot ct_law_pot), sl_law_pot⟩) (co_law_pot : PySem.W.codeIn K cd_law_pot "_law_pot" = true) (k_law_pot : PySem.W.keepIn K (.ref f_law_pot) = true)
    (a_law_draw : PySem.W.nsIn K mainGlobals "_law_draw" = some (some (.ref f_law_draw))) (l_law_draw : K.lookup f_law_draw = some ⟨oc_law_draw, od_law_draw, .func (PySem.W.fnOf "_law_draw" "_law_draw" (defArgs s_law_draw) (defBody s_law_draw) (defScope s_law_draw) .none kV_law_draw dc_law_draw pm_law_draw an_law_draw cd_law_draw ct_law_draw), sl_law_draw⟩) (co_law_draw : PySem.W.codeIn K cd_law_draw "_law_draw" = true) (k_law_draw : PySem.W.keepIn K (.ref f_law_draw) = true)
    (a_law_choose : PySem.W.nsIn K mainGlobals "_law_choose" = some (some (.ref f_law_choose))) (l_law_choose : K.lookup f_law_choose = some ⟨oc_law_choose, od_law_choose, .func (PySem.W.fnOf "_law_choose" "_law_choose" (defArgs s_law_choose) (defBody s_law_choose) (defScope s_law_choose) .none kV_law_choose dc_law_choose pm_law_choose an_law_choose cd_law_choose ct_law_choose), sl_law_choose⟩) (co_law_choose : PySem.W.codeIn K cd_law_choose "_law_choose" = true) (k_law_choose : PySem.W.keepIn K (.ref f_law_choose) = true)
    (a_law_name : PySem.W.nsIn K mainGlobals "_law_name" = some (some (.ref f_law_name))) (l_law_name : K.lookup f_law_name = some ⟨oc_law_name, od_law_name, .func (PySem.W.fnOf "_law_name" "_law_name" (defArgs s_law_name) (defBody s_law_name) (defScope s_law_name) .none kV_law_name dc_law_name pm_law_name an_law_name cd_law_name ct_law_name), sl_law_name⟩) (co_law_name : PySem.W.codeIn K cd_law_name "_law_name" = true) (k_law_name : PySem.W.keepIn K (.ref f_law_name) = true)
    (a_law_tree : PySem.W.nsIn K mainGlobals "_law_tree" = some (some (.ref f_law_tree))) (l_law_tree : K.lookup f_law_tree = some ⟨oc_law_tree, od_law_tree, .func (PySem.W.fnOf "_law_tree" "_law_tree" (defArgs s_law_tree) (defBody s_law_tree) (defScope s_law_tree) .none kV_law_tree dc_law_tree pm_law_tree an_law_tree cd_law_tree ct_law_tree), sl_law_tree⟩) (co_law_tree : PySem.W.codeIn K cd_law_tree "_law_tree" = true) (k_law_tree : PySem.W.keepIn K (.ref f_law_tree) = true)
    (a_law_near : PySem.W.nsIn K mainGlobals "_law_near" = some (some (.ref f_law_near))) (l_law_near : K.lookup f_law_near = some ⟨oc_law_near, od_law_near, .func (PySem.W.fnOf "_law_near" "_law_near" (defArgs s_law_near) (defBody s_law_near) (defScope s_law_near) .none kV_law_near dc_law_near pm_law_near an_law_near cd_law_near ct_law_near), sl_law_near⟩) (co_law_near : PySem.W.codeIn K cd_law_near "_law_near" = true) (k_law_near : PySem.W.keepIn K (.ref f_law_near) = true)
    (a_law_new : PySem.W.nsIn K mainGlobals "_law_new" = some (some (.ref f_law_new))) (l_law_new : K.lookup f_law_new = some ⟨oc_law_new, od_law_new, .func (PySem.W.fnOf "_law_new" "_law_new" (defArgs s_law_new) (defBody s_law_new) (defScope s_law_new) .none kV_law_new dc_law_new pm_law_new an_law_new cd_law_new ct_law_new), sl_law_new⟩) (co_law_new : PySem.W.codeIn K cd_law_new "_law_new" = true) (k_law_new : PySem.W.keepIn K (.ref f_law_new) = true)
    (a_law_awaited : PySem.W.nsIn K mainGlobals "_law_awaited" = some (some (.ref f_law_awaited))) (l_law_awaited : K.lookup f_law_awaited = some ⟨oc_law_awaited, od_law_awaited, .func (PySem.W.fnOf "_law_awaited" "_law_awaited" (defArgs s_law_awaited) (defBody s_law_awaited) (defScope s_law_awaited) .none kV_law_awaited dc_law_awaited pm_law_awaited an_law_awaited cd_law_awaited ct_law_awaited), sl_law_awaited⟩) (co_law_awaited : PySem.W.codeIn K cd_law_awaited "_law_awaited" = true) (k_law_awaited : PySem.W.keepIn K (.ref f_law_awaited) = true)
    (a_law_bit : PySem.W.nsIn K mainGlobals "_law_bit" = some (some (.ref f_law_bit))) (l_law_bit : K.lookup f_law_bit = some ⟨oc_law_bit, od_law_bit, .func (PySem.W.fnOf "_law_bit" "_law_bit" (defArgs s_law_bit) (defBody s_law_bit) (defScope s_law_bit) .none kV_law_bit dc_law_bit pm_law_bit an_law_bit cd_law_bit ct_law_bit), sl_law_bit⟩) (co_law_bit : PySem.W.codeIn K cd_law_bit "_law_bit" = true) (k_law_bit : PySem.W.keepIn K (.ref f_law_bit) = true)
    (a_law_spread : PySem.W.nsIn K mainGlobals "_law_spread" = some (some (.ref f_law_spread))) (l_law_spread : K.lookup f_law_spread = some ⟨oc_law_spread, od_law_spread, .func (PySem.W.fnOf "_law_spread" "_law_spread" (defArgs s_law_spread) (defBody s_law_spread) (defScope s_law_spread) .none kV_law_spread dc_law_spread pm_law_spread an_law_spread cd_law_spread ct_law_spread), sl_law_spread⟩) (co_law_spread : PySem.W.codeIn K cd_law_spread "_law_spread" = true) (k_law_spread : PySem.W.keepIn K (.ref f_law_spread) = true)
    (a_law_unlinked : PySem.W.nsIn K mainGlobals "_law_unlinked" = some (some (.ref f_law_unlinked))) (l_law_unlinked : K.lookup f_law_unlinked = some ⟨oc_law_unlinked, od_law_unlinked, .func (PySem.W.fnOf "_law_unlinked" "_law_unlinked" (defArgs s_law_unlinked) (defBody s_law_unlinked) (defScope s_law_unlinked) .none kV_law_unlinked dc_law_unlinked pm_law_unlinked an_law_unlinked cd_law_unlinked ct_law_unlinked), sl_law_unlinked⟩) (co_law_unlinked : PySem.W.codeIn K cd_law_unlinked "_law_unlinked" = true) (k_law_unlinked : PySem.W.keepIn K (.ref f_law_unlinked) = true)
    (a_law_linked : PySem.W.nsIn K mainGlobals "_law_linked" = some (some (.ref f_law_linked))) (l_law_linked : K.lookup f_law_linked = some ⟨oc_law_linked, od_law_linked, .func (PySem.W.fnOf "_law_linked" "_law_linked" (defArgs s_law_linked) (defBody s_law_linked) (defScope s_law_linked) .none kV_law_linked dc_law_linked pm_law_linked an_law_linked cd_law_linked ct_law_linked), sl_law_linked⟩) (co_law_linked : PySem.W.codeIn K cd_law_linked "_law_linked" = true) (k_law_linked : PySem.W.keepIn K (.ref f_law_linked) = true)
    (a_law_asked : PySem.W.nsIn K mainGlobals "_law_asked" = some (some (.ref f_law_asked))) (l_law_asked : K.lookup f_law_asked = some ⟨oc_law_asked, od_law_asked, .func (PySem.W.fnOf "_law_asked" "_law_asked" (defArgs s_law_asked) (defBody s_law_asked) (defScope s_law_asked) .none kV_law_asked dc_law_asked pm_law_asked an_law_asked cd_law_asked ct_law_asked), sl_law_asked⟩) (co_law_asked : PySem.W.codeIn K cd_law_asked "_law_asked" = true) (k_law_asked : PySem.W.keepIn K (.ref f_law_asked) = true)
    (a_law_freed : PySem.W.nsIn K mainGlobals "_law_freed" = some (some (.ref f_law_freed))) (l_law_freed : K.lookup f_law_freed = some ⟨oc_law_freed, od_law_freed, .func (PySem.W.fnOf "_law_freed" "_law_freed" (defArgs s_law_freed) (defBody s_law_freed) (defScope s_law_freed) .none kV_law_freed dc_law_freed pm_law_freed an_law_freed cd_law_freed ct_law_freed), sl_law_freed⟩) (co_law_freed : PySem.W.codeIn K cd_law_freed "_law_freed" = true) (k_law_freed : PySem.W.keepIn K (.ref f_law_freed) = true)
    (a_law_finished : PySem.W.nsIn K mainGlobals "_law_finished" = some (some (.ref f_law_finished))) (l_law_finished : K.lookup f_law_finished = some ⟨oc_law_finished, od_law_finished, .func (PySem.W.fnOf "_law_finished" "_law_finished" (defArgs s_law_finished) (defBody s_law_finished) (defScope s_law_finished) .none kV_law_finished dc_law_finished pm_law_finished an_law_finished cd_law_finished ct_law_finished), sl_law_finished⟩) (co_law_finished : PySem.W.codeIn K cd_law_finished "_law_finished" = true) (k_law_finished : PySem.W.keepIn K (.ref f_law_finished) = true)
    (a_law_refused : PySem.W.nsIn K mainGlobals "_law_refused" = some (some (.ref f_law_refused))) (l_law_refused : K.lookup f_law_refused = some ⟨oc_law_refused, od_law_refused, .func (PySem.W.fnOf "_law_refused" "_law_refused" (defArgs s_law_refused) (defBody s_law_refused) (defScope s_law_refused) .none kV_law_refused dc_law_refused pm_law_refused an_law_refused cd_law_refused ct_law_refused), sl_law_refused⟩) (co_law_refused : PySem.W.codeIn K cd_law_refused "_law_refused" = true) (k_law_refused : PySem.W.keepIn K (.ref f_law_refused) = true)
    (a_law_agreed : PySem.W.nsIn K mainGlobals "_law_agreed" = some (some (.ref f_law_agreed))) (l_law_agreed : K.lookup f_law_agreed = some ⟨oc_law_agreed, od_law_agreed, .func (PySem.W.fnOf "_law_agreed" "_law_agreed" (defArgs s_law_agreed) (defBody s_law_agreed) (defScope s_law_agreed) .none kV_law_agreed dc_law_agreed pm_law_agreed an_law_agreed cd_law_agreed ct_law_agreed), sl_law_agreed⟩) (co_law_agreed : PySem.W.codeIn K cd_law_agreed "_law_agreed" = true) (k_law_agreed : PySem.W.keepIn K (.ref f_law_agreed) = true)
    (a_law_gone_on : PySem.W.nsIn K mainGlobals "_law_gone_on" = some (some (.ref f_law_gone_on))) (l_law_gone_on : K.lookup f_law_gone_on = some ⟨oc_law_gone_on, od_law_gone_on, .func (PySem.W.fnOf "_law_gone_on" "_law_gone_on" (defArgs s_law_gone_on) (defBody s_law_gone_on) (defScope s_law_gone_on) .none kV_law_gone_on dc_law_gone_on pm_law_gone_on an_law_gone_on cd_law_gone_on ct_law_gone_on), sl_law_gone_on⟩) (co_law_gone_on : PySem.W.codeIn K cd_law_gone_on "_law_gone_on" = true) (k_law_gone_on : PySem.W.keepIn K (.ref f_law_gone_on) = true)
    (a_law_received : PySem.W.nsIn K mainGlobals "_law_received" = some (some (.ref f_law_received))) (l_law_received : K.lookup f_law_received = some ⟨oc_law_received, od_law_received, .func (PySem.W.fnOf "_law_received" "_law_received" (defArgs s_law_received) (defBody s_law_received) (defScope s_law_received) .none kV_law_received dc_law_received pm_law_received an_law_received cd_law_received ct_law_received), sl_law_received⟩) (co_law_received : PySem.W.codeIn K cd_law_received "_law_received" = true) (k_law_received : PySem.W.keepIn K (.ref f_law_received) = true)
    (a_law_shown : PySem.W.nsIn K mainGlobals "_law_shown" = some (some (.ref f_law_shown))) (l_law_shown : K.lookup f_law_shown = some ⟨oc_law_shown, od_law_shown, .func (PySem.W.fnOf "_law_shown" "_law_shown" (defArgs s_law_shown) (defBody s_law_shown) (defScope s_law_shown) .none kV_law_shown dc_law_shown pm_law_shown an_law_shown cd_law_shown ct_law_shown), sl_law_shown⟩) (co_law_shown : PySem.W.codeIn K cd_law_shown "_law_shown" = true) (k_law_shown : PySem.W.keepIn K (.ref f_law_shown) = true)
    (a_law_agrees : PySem.W.nsIn K mainGlobals "_law_agrees" = some (some (.ref f_law_agrees))) (l_law_agrees : K.lookup f_law_agrees = some ⟨oc_law_agrees, od_law_agrees, .func (PySem.W.fnOf "_law_agrees" "_law_agrees" (defArgs s_law_agrees) (defBody s_law_agrees) (defScope s_law_agrees) .none kV_law_agrees dc_law_agrees pm_law_agrees an_law_agrees cd_law_agrees ct_law_agrees), sl_law_agrees⟩) (co_law_agrees : PySem.W.codeIn K cd_law_agrees "_law_agrees" = true) (k_law_agrees : PySem.W.keepIn K (.ref f_law_agrees) = true)
    (a_law_world : PySem.W.nsIn K mainGlobals "_law_world" = some (some (.ref f_law_world))) (l_law_world : K.lookup f_law_world = some ⟨oc_law_world, od_law_world, .func (PySem.W.fnOf "_law_world" "_law_world" (defArgs s_law_world) (defBody s_law_world) (defScope s_law_world) .none kV_law_world dc_law_world pm_law_world an_law_world cd_law_world ct_law_world), sl_law_world⟩) (co_law_world : PySem.W.codeIn K cd_law_world "_law_world" = true) (k_law_world : PySem.W.keepIn K (.ref f_law_world) = true)
    (a_law_posted : PySem.W.nsIn K mainGlobals "_law_posted" = some (some (.ref f_law_posted))) (l_law_posted : K.lookup f_law_posted = some ⟨oc_law_posted, od_law_posted, .func (PySem.W.fnOf "_law_posted" "_law_posted" (defArgs s_law_posted) (defBody s_law_posted) (defScope s_law_posted) .none kV_law_posted dc_law_posted pm_law_posted an_law_posted cd_law_posted ct_law_posted), sl_law_posted⟩) (co_law_posted : PySem.W.codeIn K cd_law_posted "_law_posted" = true) (k_law_posted : PySem.W.keepIn K (.ref f_law_posted) = true)
    (a_law_busy : PySem.W.nsIn K mainGlobals "_law_busy" = some (some (.ref f_law_busy))) (l_law_busy : K.lookup f_law_busy = some ⟨oc_law_busy, od_law_busy, .func (PySem.W.fnOf "_law_busy" "_law_busy" (defArgs s_law_busy) (defBody s_law_busy) (defScope s_law_busy) .none kV_law_busy dc_law_busy pm_law_busy an_law_busy cd_law_busy ct_law_busy), sl_law_busy⟩) (co_law_busy : PySem.W.codeIn K cd_law_busy "_law_busy" = true) (k_law_busy : PySem.W.keepIn K (.ref f_law_busy) = true)
    (a_law_acted : PySem.W.nsIn K mainGlobals "_law_acted" = some (some (.ref f_law_acted))) (l_law_acted : K.lookup f_law_acted = some ⟨oc_law_acted, od_law_acted, .func (PySem.W.fnOf "_law_acted" "_law_acted" (defArgs s_law_acted) (defBody s_law_acted) (defScope s_law_acted) .none kV_law_acted dc_law_acted pm_law_acted an_law_acted cd_law_acted ct_law_acted), sl_law_acted⟩) (co_law_acted : PySem.W.codeIn K cd_law_acted "_law_acted" = true) (k_law_acted : PySem.W.keepIn K (.ref f_law_acted) = true)
    (a_law_delivered : PySem.W.nsIn K mainGlobals "_law_delivered" = some (some (.ref f_law_delivered))) (l_law_delivered : K.lookup f_law_delivered = some ⟨oc_law_delivered, od_law_delivered, .func (PySem.W.fnOf "_law_delivered" "_law_delivered" (defArgs s_law_delivered) (defBody s_law_delivered) (defScope s_law_delivered) .none kV_law_delivered dc_law_delivered pm_law_delivered an_law_delivered cd_law_delivered ct_law_delivered), sl_law_delivered⟩) (co_law_delivered : PySem.W.codeIn K cd_law_delivered "_law_delivered" = true) (k_law_delivered : PySem.W.keepIn K (.ref f_law_delivered) = true)
    (a_law_wrote : PySem.W.nsIn K mainGlobals "_law_wrote" = some (some (.ref f_law_wrote))) (l_law_wrote : K.lookup f_law_wrote = some ⟨oc_law_wrote, od_law_wrote, .func (PySem.W.fnOf "_law_wrote" "_law_wrote" (defArgs s_law_wrote) (defBody s_law_wrote) (defScope s_law_wrote) .none kV_law_wrote dc_law_wrote pm_law_wrote an_law_wrote cd_law_wrote ct_law_wrote), sl_law_wrote⟩) (co_law_wrote : PySem.W.codeIn K cd_law_wrote "_law_wrote" = true) (k_law_wrote : PySem.W.keepIn K (.ref f_law_wrote) = true)
    (a_law_noted : PySem.W.nsIn K mainGlobals "_law_noted" = some (some (.ref f_law_noted))) (l_law_noted : K.lookup f_law_noted = some ⟨oc_law_noted, od_law_noted, .func (PySem.W.fnOf "_law_noted" "_law_noted" (defArgs s_law_noted) (defBody s_law_noted) (defScope s_law_noted) .none kV_law_noted dc_law_noted pm_law_noted an_law_noted cd_law_noted ct_law_noted), sl_law_noted⟩) (co_law_noted : PySem.W.codeIn K cd_law_noted "_law_noted" = true) (k_law_noted : PySem.W.keepIn K (.ref f_law_noted) = true)
    (a_law_at_rest : PySem.W.nsIn K mainGlobals "_law_at_rest" = some (some (.ref f_law_at_rest))) (l_law_at_rest : K.lookup f_law_at_rest = some ⟨oc_law_at_rest, od_law_at_rest, .func (PySem.W.fnOf "_law_at_rest" "_law_at_rest" (defArgs s_law_at_rest) (defBody s_law_at_rest) (defScope s_law_at_rest) .none kV_law_at_rest dc_law_at_rest pm_law_at_rest an_law_at_rest cd_law_at_rest ct_law_at_rest), sl_law_at_rest⟩) (co_law_at_rest : PySem.W.codeIn K cd_law_at_rest "_law_at_rest" = true) (k_law_at_rest : PySem.W.keepIn K (.ref f_law_at_rest) = true)
    (a_law_causal : PySem.W.nsIn K mainGlobals "_law_causal" = some (some (.ref f_law_causal))) (l_law_causal : K.lookup f_law_causal = some ⟨oc_law_causal, od_law_causal, .func (PySem.W.fnOf "_law_causal" "_law_causal" (defArgs s_law_causal) (defBody s_law_causal) (defScope s_law_causal) .none kV_law_causal dc_law_causal pm_law_causal an_law_causal cd_law_causal ct_law_causal), sl_law_causal⟩) (co_law_causal : PySem.W.codeIn K cd_law_causal "_law_causal" = true) (k_law_causal : PySem.W.keepIn K (.ref f_law_causal) = true)
    (a_law_joined : PySem.W.nsIn K mainGlobals "_law_joined" = some (some (.ref f_law_joined))) (l_law_joined : K.lookup f_law_joined = some ⟨oc_law_joined, od_law_joined, .func (PySem.W.fnOf "_law_joined" "_law_joined" (defArgs s_law_joined) (defBody s_law_joined) (defScope s_law_joined) .none kV_law_joined dc_law_joined pm_law_joined an_law_joined cd_law_joined ct_law_joined), sl_law_joined⟩) (co_law_joined : PySem.W.codeIn K cd_law_joined "_law_joined" = true) (k_law_joined : PySem.W.keepIn K (.ref f_law_joined) = true)
    (a_law_step : PySem.W.nsIn K mainGlobals "_law_step" = some (some (.ref f_law_step))) (l_law_step : K.lookup f_law_step = some ⟨oc_law_step, od_law_step, .func (PySem.W.fnOf "_law_step" "_law_step" (defArgs s_law_step) (defBody s_law_step) (defScope s_law_step) .none kV_law_step dc_law_step pm_law_step an_law_step cd_law_step ct_law_step), sl_law_step⟩) (co_law_step : PySem.W.codeIn K cd_law_step "_law_step" = true) (k_law_step : PySem.W.keepIn K (.ref f_law_step) = true)
    (a_law_tree_of : PySem.W.nsIn K mainGlobals "_law_tree_of" = some (some (.ref f_law_tree_of))) (l_law_tree_of : K.lookup f_law_tree_of = some ⟨oc_law_tree_of, od_law_tree_of, .func (PySem.W.fnOf "_law_tree_of" "_law_tree_of" (defArgs s_law_tree_of) (defBody s_law_tree_of) (defScope s_law_tree_of) .none kV_law_tree_of dc_law_tree_of pm_law_tree_of an_law_tree_of cd_law_tree_of ct_law_tree_of), sl_law_tree_of⟩) (co_law_tree_of : PySem.W.codeIn K cd_law_tree_of "_law_tree_of" = true) (k_law_tree_of : PySem.W.keepIn K (.ref f_law_tree_of) = true)
    (a_law_end_right : PySem.W.nsIn K mainGlobals "_law_end_right" = some (some (.ref f_law_end_right))) (l_law_end_right : K.lookup f_law_end_right = some ⟨oc_law_end_right, od_law_end_right, .func (PySem.W.fnOf "_law_end_right" "_law_end_right" (defArgs s_law_end_right) (defBody s_law_end_right) (defScope s_law_end_right) .none kV_law_end_right dc_law_end_right pm_law_end_right an_law_end_right cd_law_end_right ct_law_end_right), sl_law_end_right⟩) (co_law_end_right : PySem.W.codeIn K cd_law_end_right "_law_end_right" = true) (k_law_end_right : PySem.W.keepIn K (.ref f_law_end_right) = true)
    (a_law : PySem.W.nsIn K mainGlobals "law" = some (some (.ref f_law))) (l_law : K.lookup f_law = some ⟨oc_law, od_law, .func (PySem.W.fnOf "law" "law" (defArgs s_law) (defBody s_law) (defScope s_law) .none kV_law dc_law pm_law an_law cd_law ct_law), sl_law⟩) (co_law : PySem.W.codeIn K cd_law "law" = true) (k_law : PySem.W.keepIn K (.ref f_law) = true)
    (v_LETTERS : PySem.W.nsIn K mainGlobals "LETTERS" = some (some (.str LET t_LETTERS)))
    (v_DIGITS : PySem.W.nsIn K mainGlobals "DIGITS" = some (some (.str DIG t_DIGITS)))
    (v_LONGEST_NAME : PySem.W.nsIn K mainGlobals "LONGEST_NAME" = some (some (.int 8 t_LONGEST_NAME)))
    (v_LONGEST_WORD : PySem.W.nsIn K mainGlobals "LONGEST_WORD" = some (some (.int 12 t_LONGEST_WORD)))
    (v_SHORTEST_PATH : PySem.W.nsIn K mainGlobals "SHORTEST_PATH" = some (some (.int 3 t_SHORTEST_PATH)))
    (v_MESSAGE : PySem.W.nsIn K mainGlobals "MESSAGE" = some (some (.str "message" t_MESSAGE)))
    (v_BYE : PySem.W.nsIn K mainGlobals "BYE" = some (some (.str "bye" t_BYE)))
    (v_BITS : PySem.W.nsIn K mainGlobals "BITS" = some (some (.int 2 t_BITS)))
    (z_len : PySem.W.nsIn K mainGlobals "len" = some none)
    (z_range : PySem.W.nsIn K mainGlobals "range" = some none)
    (z_abs : PySem.W.nsIn K mainGlobals "abs" = some none)
    (z_max : PySem.W.nsIn K mainGlobals "max" = some none)
    (z_min : PySem.W.nsIn K mainGlobals "min" = some none)
    (z_divmod : PySem.W.nsIn K mainGlobals "divmod" = some none)
    (z_isinstance : PySem.W.nsIn K mainGlobals "isinstance" = some none)
    (z_str : PySem.W.nsIn K mainGlobals "str" = some none)
    (z_int : PySem.W.nsIn K mainGlobals "int" = some none)
    (z_bool : PySem.W.nsIn K mainGlobals "bool" = some none)
    (z_tuple : PySem.W.nsIn K mainGlobals "tuple" = some none)
    (z_list : PySem.W.nsIn K mainGlobals "list" = some none)
    (z_set : PySem.W.nsIn K mainGlobals "set" = some none)
    (z_dict : PySem.W.nsIn K mainGlobals "dict" = some none)
    (z_all : PySem.W.nsIn K mainGlobals "all" = some none)
    (z_any : PySem.W.nsIn K mainGlobals "any" = some none)
    (z_repr : PySem.W.nsIn K mainGlobals "repr" = some none)
    (z_sorted : PySem.W.nsIn K mainGlobals "sorted" = some none)
    (z_enumerate : PySem.W.nsIn K mainGlobals "enumerate" = some none)
    (z_zip : PySem.W.nsIn K mainGlobals "zip" = some none)
    (e_InvalidWord : PySem.W.nsIn K mainGlobals "InvalidWord" = some (some (.ref c_InvalidWord))) (S_InvalidWord : XCl K c_InvalidWord ∧ ∀ (P : Program) (w : World) (mg : Str → Option Value) (base : Heap), mg "InvalidWord" = some (.ref c_InvalidWord) → Rz P w K mg base "InvalidWord" "value" c_InvalidWord)
    (e_InvalidName : PySem.W.nsIn K mainGlobals "InvalidName" = some (some (.ref c_InvalidName))) (S_InvalidName : XCl K c_InvalidName ∧ ∀ (P : Program) (w : World) (mg : Str → Option Value) (base : Heap), mg "InvalidName" = some (.ref c_InvalidName) → Rz P w K mg base "InvalidName" "value" c_InvalidName)
    (e_InvalidItem : PySem.W.nsIn K mainGlobals "InvalidItem" = some (some (.ref c_InvalidItem))) (S_InvalidItem : XCl K c_InvalidItem ∧ ∀ (P : Program) (w : World) (mg : Str → Option Value) (base : Heap), mg "InvalidItem" = some (.ref c_InvalidItem) → Rz P w K mg base "InvalidItem" "value" c_InvalidItem)
    (e_InvalidRelink : PySem.W.nsIn K mainGlobals "InvalidRelink" = some (some (.ref c_InvalidRelink))) (S_InvalidRelink : XCl K c_InvalidRelink ∧ ∀ (P : Program) (w : World) (mg : Str → Option Value) (base : Heap), mg "InvalidRelink" = some (.ref c_InvalidRelink) → Rz P w K mg base "InvalidRelink" "value" c_InvalidRelink)
    (e_NameTaken : PySem.W.nsIn K mainGlobals "NameTaken" = some (some (.ref c_NameTaken))) (S_NameTaken : XCl K c_NameTaken ∧ ∀ (P : Program) (w : World) (mg : Str → Option Value) (base : Heap), mg "NameTaken" = some (.ref c_NameTaken) → Rz P w K mg base "NameTaken" "value" c_NameTaken)
    (e_UnknownHost : PySem.W.nsIn K mainGlobals "UnknownHost" = some (some (.ref c_UnknownHost))) (S_UnknownHost : XCl K c_UnknownHost ∧ ∀ (P : Program) (w : World) (mg : Str → Option Value) (base : Heap), mg "UnknownHost" = some (.ref c_UnknownHost) → Rz P w K mg base "UnknownHost" "host" c_UnknownHost)
    (v_CK : PySem.W.nsIn K mainGlobals "CONTROL_KINDS" = some (some (.ref ck)))
    (l_CK : K.lookup ck = some o_ck)
    (q_CK : KindsAt o_ck)
    (e_Host : PySem.W.nsIn K mainGlobals "Host" = some (some (.ref c_Host)))
    (T_pg : PySem.W.plainGet K c_Host Str.empty = true)
    (T_hd : PySem.W.hasDictIn K c_Host = true)
    (T_po : PySem.W.plainOver K c_Host = true)
    (T_sa : PySem.W.findIn K (.ref c_Host) "__setattr__" = some (some (.builtin "object.__setattr__")))
    (T_mk : PySem.W.makesIn K c_Host = true)
    (T_kc : PySem.W.keepIn K (.ref c_Host) = true)
    (T_nown_name : PySem.W.findIn K (.ref c_Host) "own_name" = some none)
    (T_nlinked : PySem.W.findIn K (.ref c_Host) "linked" = some none)
    (T_nlogged : PySem.W.findIn K (.ref c_Host) "logged" = some none)
    (T_njoined : PySem.W.findIn K (.ref c_Host) "joined" = some none)
    (T_nstage : PySem.W.findIn K (.ref c_Host) "stage" = some none)
    (T_nqueued : PySem.W.findIn K (.ref c_Host) "queued" = some none)
    (T_nfinished : PySem.W.findIn K (.ref c_Host) "finished" = some none)
    (aTm_init : PySem.W.findIn K (.ref c_Host) "__init__" = some (some (.ref fTm_init)))
    (iTm_init : PySem.W.isFn K (.ref fTm_init) = true)
    (lTm_init : K.lookup fTm_init = some ⟨ocTm_init, odTm_init, .func (PySem.W.fnOf "__init__" "Host.__init__" (defArgs m_init) (defBody m_init) (defScope m_init) .none kVTm_init dcTm_init pmTm_init anTm_init cdTm_init ctTm_init), slTm_init⟩)
    (cTm_init : PySem.W.codeIn K cdTm_init "Host.__init__" = true)
    (kTm_init : PySem.W.keepIn K (.ref fTm_init) = true)
    (aTm_name : PySem.W.findIn K (.ref c_Host) "name" = some (some (.ref fTm_name)))
    (iTm_name : PySem.W.isFn K (.ref fTm_name) = true)
    (lTm_name : K.lookup fTm_name = some ⟨ocTm_name, odTm_name, .func (PySem.W.fnOf "name" "Host.name" (defArgs m_name) (defBody m_name) (defScope m_name) .none kVTm_name dcTm_name pmTm_name anTm_name cdTm_name ctTm_name), slTm_name⟩)
    (cTm_name : PySem.W.codeIn K cdTm_name "Host.name" = true)
    (kTm_name : PySem.W.keepIn K (.ref fTm_name) = true)
    (aTm_log : PySem.W.findIn K (.ref c_Host) "log" = some (some (.ref fTm_log)))
    (iTm_log : PySem.W.isFn K (.ref fTm_log) = true)
    (lTm_log : K.lookup fTm_log = some ⟨ocTm_log, odTm_log, .func (PySem.W.fnOf "log" "Host.log" (defArgs m_log) (defBody m_log) (defScope m_log) .none kVTm_log dcTm_log pmTm_log anTm_log cdTm_log ctTm_log), slTm_log⟩)
    (cTm_log : PySem.W.codeIn K cdTm_log "Host.log" = true)
    (kTm_log : PySem.W.keepIn K (.ref fTm_log) = true)
    (aTm_links : PySem.W.findIn K (.ref c_Host) "links" = some (some (.ref fTm_links)))
    (iTm_links : PySem.W.isFn K (.ref fTm_links) = true)
    (lTm_links : K.lookup fTm_links = some ⟨ocTm_links, odTm_links, .func (PySem.W.fnOf "links" "Host.links" (defArgs m_links) (defBody m_links) (defScope m_links) .none kVTm_links dcTm_links pmTm_links anTm_links cdTm_links ctTm_links), slTm_links⟩)
    (cTm_links : PySem.W.codeIn K cdTm_links "Host.links" = true)
    (kTm_links : PySem.W.keepIn K (.ref fTm_links) = true)
    (aTm_answers : PySem.W.findIn K (.ref c_Host) "answers" = some (some (.ref fTm_answers)))
    (iTm_answers : PySem.W.isFn K (.ref fTm_answers) = true)
    (lTm_answers : K.lookup fTm_answers = some ⟨ocTm_answers, odTm_answers, .func (PySem.W.fnOf "answers" "Host.answers" (defArgs m_answers) (defBody m_answers) (defScope m_answers) .none kVTm_answers dcTm_answers pmTm_answers anTm_answers cdTm_answers ctTm_answers), slTm_answers⟩)
    (cTm_answers : PySem.W.codeIn K cdTm_answers "Host.answers" = true)
    (kTm_answers : PySem.W.keepIn K (.ref fTm_answers) = true)
    (aTm_relink : PySem.W.findIn K (.ref c_Host) "relink" = some (some (.ref fTm_relink)))
    (iTm_relink : PySem.W.isFn K (.ref fTm_relink) = true)
    (lTm_relink : K.lookup fTm_relink = some ⟨ocTm_relink, odTm_relink, .func (PySem.W.fnOf "relink" "Host.relink" (defArgs m_relink) (defBody m_relink) (defScope m_relink) .none kVTm_relink dcTm_relink pmTm_relink anTm_relink cdTm_relink ctTm_relink), slTm_relink⟩)
    (cTm_relink : PySem.W.codeIn K cdTm_relink "Host.relink" = true)
    (kTm_relink : PySem.W.keepIn K (.ref fTm_relink) = true)
    (aTm_phase : PySem.W.findIn K (.ref c_Host) "phase" = some (some (.ref fTm_phase)))
    (iTm_phase : PySem.W.isFn K (.ref fTm_phase) = true)
    (lTm_phase : K.lookup fTm_phase = some ⟨ocTm_phase, odTm_phase, .func (PySem.W.fnOf "phase" "Host.phase" (defArgs m_phase) (defBody m_phase) (defScope m_phase) .none kVTm_phase dcTm_phase pmTm_phase anTm_phase cdTm_phase ctTm_phase), slTm_phase⟩)
    (cTm_phase : PySem.W.codeIn K cdTm_phase "Host.phase" = true)
    (kTm_phase : PySem.W.keepIn K (.ref fTm_phase) = true)
    (aTm_queue : PySem.W.findIn K (.ref c_Host) "queue" = some (some (.ref fTm_queue)))
    (iTm_queue : PySem.W.isFn K (.ref fTm_queue) = true)
    (lTm_queue : K.lookup fTm_queue = some ⟨ocTm_queue, odTm_queue, .func (PySem.W.fnOf "queue" "Host.queue" (defArgs m_queue) (defBody m_queue) (defScope m_queue) .none kVTm_queue dcTm_queue pmTm_queue anTm_queue cdTm_queue ctTm_queue), slTm_queue⟩)
    (cTm_queue : PySem.W.codeIn K cdTm_queue "Host.queue" = true)
    (kTm_queue : PySem.W.keepIn K (.ref fTm_queue) = true)
    (aTm_waits_for : PySem.W.findIn K (.ref c_Host) "waits_for" = some (some (.ref fTm_waits_for)))
    (iTm_waits_for : PySem.W.isFn K (.ref fTm_waits_for) = true)
    (lTm_waits_for : K.lookup fTm_waits_for = some ⟨ocTm_waits_for, odTm_waits_for, .func (PySem.W.fnOf "waits_for" "Host.waits_for" (defArgs m_waits_for) (defBody m_waits_for) (defScope m_waits_for) .none kVTm_waits_for dcTm_waits_for pmTm_waits_for anTm_waits_for cdTm_waits_for ctTm_waits_for), slTm_waits_for⟩)
    (cTm_waits_for : PySem.W.codeIn K cdTm_waits_for "Host.waits_for" = true)
    (kTm_waits_for : PySem.W.keepIn K (.ref fTm_waits_for) = true)
    (aTm_write : PySem.W.findIn K (.ref c_Host) "write" = some (some (.ref fTm_write)))
    (iTm_write : PySem.W.isFn K (.ref fTm_write) = true)
    (lTm_write : K.lookup fTm_write = some ⟨ocTm_write, odTm_write, .func (PySem.W.fnOf "write" "Host.write" (defArgs m_write) (defBody m_write) (defScope m_write) .none kVTm_write dcTm_write pmTm_write anTm_write cdTm_write ctTm_write), slTm_write⟩)
    (cTm_write : PySem.W.codeIn K cdTm_write "Host.write" = true)
    (kTm_write : PySem.W.keepIn K (.ref fTm_write) = true)
    (aTm_receive : PySem.W.findIn K (.ref c_Host) "receive" = some (some (.ref fTm_receive)))
    (iTm_receive : PySem.W.isFn K (.ref fTm_receive) = true)
    (lTm_receive : K.lookup fTm_receive = some ⟨ocTm_receive, odTm_receive, .func (PySem.W.fnOf "receive" "Host.receive" (defArgs m_receive) (defBody m_receive) (defScope m_receive) .none kVTm_receive dcTm_receive pmTm_receive anTm_receive cdTm_receive ctTm_receive), slTm_receive⟩)
    (cTm_receive : PySem.W.codeIn K cdTm_receive "Host.receive" = true)
    (kTm_receive : PySem.W.keepIn K (.ref fTm_receive) = true)
    (aTm_add_link : PySem.W.findIn K (.ref c_Host) "add_link" = some (some (.ref fTm_add_link)))
    (iTm_add_link : PySem.W.isFn K (.ref fTm_add_link) = true)
    (lTm_add_link : K.lookup fTm_add_link = some ⟨ocTm_add_link, odTm_add_link, .func (PySem.W.fnOf "add_link" "Host.add_link" (defArgs m_add_link) (defBody m_add_link) (defScope m_add_link) .none kVTm_add_link dcTm_add_link pmTm_add_link anTm_add_link cdTm_add_link ctTm_add_link), slTm_add_link⟩)
    (cTm_add_link : PySem.W.codeIn K cdTm_add_link "Host.add_link" = true)
    (kTm_add_link : PySem.W.keepIn K (.ref fTm_add_link) = true)
    (aTm_join_to : PySem.W.findIn K (.ref c_Host) "join_to" = some (some (.ref fTm_join_to)))
    (iTm_join_to : PySem.W.isFn K (.ref fTm_join_to) = true)
    (lTm_join_to : K.lookup fTm_join_to = some ⟨ocTm_join_to, odTm_join_to, .func (PySem.W.fnOf "join_to" "Host.join_to" (defArgs m_join_to) (defBody m_join_to) (defScope m_join_to) .none kVTm_join_to dcTm_join_to pmTm_join_to anTm_join_to cdTm_join_to ctTm_join_to), slTm_join_to⟩)
    (cTm_join_to : PySem.W.codeIn K cdTm_join_to "Host.join_to" = true)
    (kTm_join_to : PySem.W.keepIn K (.ref fTm_join_to) = true)
    (aTm_log_and_forward : PySem.W.findIn K (.ref c_Host) "log_and_forward" = some (some (.ref fTm_log_and_forward)))
    (iTm_log_and_forward : PySem.W.isFn K (.ref fTm_log_and_forward) = true)
    (lTm_log_and_forward : K.lookup fTm_log_and_forward = some ⟨ocTm_log_and_forward, odTm_log_and_forward, .func (PySem.W.fnOf "log_and_forward" "Host.log_and_forward" (defArgs m_log_and_forward) (defBody m_log_and_forward) (defScope m_log_and_forward) (.ref TTm_log_and_forward) kVTm_log_and_forward dcTm_log_and_forward pmTm_log_and_forward anTm_log_and_forward cdTm_log_and_forward ctTm_log_and_forward), slTm_log_and_forward⟩)
    (cTm_log_and_forward : PySem.W.codeIn K cdTm_log_and_forward "Host.log_and_forward" = true)
    (kTm_log_and_forward : PySem.W.keepIn K (.ref fTm_log_and_forward) = true)
    (dlTm_log_and_forward : K.lookup TTm_log_and_forward = some oTTm_log_and_forward)
    (dqTm_log_and_forward : ∃ t n, oTTm_log_and_forward.data = .seq #[Value.none, Value.int 0 t] n)
    (aTm_accept : PySem.W.findIn K (.ref c_Host) "accept" = some (some (.ref fTm_accept)))
    (iTm_accept : PySem.W.isFn K (.ref fTm_accept) = true)
    (lTm_accept : K.lookup fTm_accept = some ⟨ocTm_accept, odTm_accept, .func (PySem.W.fnOf "accept" "Host.accept" (defArgs m_accept) (defBody m_accept) (defScope m_accept) .none kVTm_accept dcTm_accept pmTm_accept anTm_accept cdTm_accept ctTm_accept), slTm_accept⟩)
    (cTm_accept : PySem.W.codeIn K cdTm_accept "Host.accept" = true)
    (kTm_accept : PySem.W.keepIn K (.ref fTm_accept) = true)
    (aTm_accept_bye : PySem.W.findIn K (.ref c_Host) "accept_bye" = some (some (.ref fTm_accept_bye)))
    (iTm_accept_bye : PySem.W.isFn K (.ref fTm_accept_bye) = true)
    (lTm_accept_bye : K.lookup fTm_accept_bye = some ⟨ocTm_accept_bye, odTm_accept_bye, .func (PySem.W.fnOf "accept_bye" "Host.accept_bye" (defArgs m_accept_bye) (defBody m_accept_bye) (defScope m_accept_bye) .none kVTm_accept_bye dcTm_accept_bye pmTm_accept_bye anTm_accept_bye cdTm_accept_bye ctTm_accept_bye), slTm_accept_bye⟩)
    (cTm_accept_bye : PySem.W.codeIn K cdTm_accept_bye "Host.accept_bye" = true)
    (kTm_accept_bye : PySem.W.keepIn K (.ref fTm_accept_bye) = true)
    (aTm_can_join : PySem.W.findIn K (.ref c_Host) "can_join" = some (some (.ref fTm_can_join)))
    (iTm_can_join : PySem.W.isFn K (.ref fTm_can_join) = true)
    (lTm_can_join : K.lookup fTm_can_join = some ⟨ocTm_can_join, odTm_can_join, .func (PySem.W.fnOf "can_join" "Host.can_join" (defArgs m_can_join) (defBody m_can_join) (defScope m_can_join) .none kVTm_can_join dcTm_can_join pmTm_can_join anTm_can_join cdTm_can_join ctTm_can_join), slTm_can_join⟩)
    (cTm_can_join : PySem.W.codeIn K cdTm_can_join "Host.can_join" = true)
    (kTm_can_join : PySem.W.keepIn K (.ref fTm_can_join) = true)
    (aTm_act : PySem.W.findIn K (.ref c_Host) "act" = some (some (.ref fTm_act)))
    (iTm_act : PySem.W.isFn K (.ref fTm_act) = true)
    (lTm_act : K.lookup fTm_act = some ⟨ocTm_act, odTm_act, .func (PySem.W.fnOf "act" "Host.act" (defArgs m_act) (defBody m_act) (defScope m_act) .none kVTm_act dcTm_act pmTm_act anTm_act cdTm_act ctTm_act), slTm_act⟩)
    (cTm_act : PySem.W.codeIn K cdTm_act "Host.act" = true)
    (kTm_act : PySem.W.keepIn K (.ref fTm_act) = true)
    (kq_i : kVTm_init = .ref dkI)
    (kn_i : PySem.W.nsIn K dkI "log" = some (some (.ref eTI)))
    (ke_i : K.lookup eTI = some o_eTI)
    (kz_i : o_eTI.cls = .type "tuple" ∧ ∃ n, o_eTI.data = .seq #[] n) :
    ∃ fd : FuncData, (∀ (s : Shared) (v : Value), BindsTo s fd ⟨[v], []⟩ [("_law_script", v)]) ∧ ∀ base : Heap, K.In base → base.Ns mainGlobals mg → FnG l.prog w K mg base CX0 15 fa fd ["_law_script"] (spLaw K) := by
  have e := hfa.symm.trans (PySem.W.mg_of X G a_law)
  cases e
  have F_is_integer_from := fun_mk (st := s_is_integer_from) l_is_integer_from co_is_integer_from k_is_integer_from
  have b_is_integer_from := F_is_integer_from.binds (ps := ["value", "least"]) fun _ _ _ _ _ _ us hl => match us, hl with | [_, _], _ => rfl
  have m_is_integer_from := PySem.W.mg_of X G a_is_integer_from
  have F_is_index := fun_mk (st := s_is_index) l_is_index co_is_index k_is_index
  have b_is_index := F_is_index.binds (ps := ["value", "size"]) fun _ _ _ _ _ _ us hl => match us, hl with | [_, _], _ => rfl
  have m_is_index := PySem.W.mg_of X G a_is_index
  have F_is_text_of := fun_mk (st := s_is_text_of) l_is_text_of co_is_text_of k_is_text_of
  have b_is_text_of := F_is_text_of.binds (ps := ["value", "characters", "longest"]) fun _ _ _ _ _ _ us hl => match us, hl with | [_, _, _], _ => rfl
  have m_is_text_of := PySem.W.mg_of X G a_is_text_of
  have F_is_host_name := fun_mk (st := s_is_host_name) l_is_host_name co_is_host_name k_is_host_name
  have b_is_host_name := F_is_host_name.binds (ps := ["value"]) fun _ _ _ _ _ _ us hl => match us, hl with | [_], _ => rfl
  have m_is_host_name := PySem.W.mg_of X G a_is_host_name
  have F_is_word := fun_mk (st := s_is_word) l_is_word co_is_word k_is_word
  have b_is_word := F_is_word.binds (ps := ["value"]) fun _ _ _ _ _ _ us hl => match us, hl with | [_], _ => rfl
  have m_is_word := PySem.W.mg_of X G a_is_word
  have F_is_relink_path := fun_mk (st := s_is_relink_path) l_is_relink_path co_is_relink_path k_is_relink_path
  have b_is_relink_path := F_is_relink_path.binds (ps := ["value"]) fun _ _ _ _ _ _ us hl => match us, hl with | [_], _ => rfl
  have m_is_relink_path := PySem.W.mg_of X G a_is_relink_path
  have F_is_cut_of := fun_mk (st := s_is_cut_of) l_is_cut_of co_is_cut_of k_is_cut_of
  have b_is_cut_of := F_is_cut_of.binds (ps := ["path", "value"]) fun _ _ _ _ _ _ us hl => match us, hl with | [_, _], _ => rfl
  have m_is_cut_of := PySem.W.mg_of X G a_is_cut_of
  have F_is_relink := fun_mk (st := s_is_relink) l_is_relink co_is_relink k_is_relink
  have b_is_relink := F_is_relink.binds (ps := ["value"]) fun _ _ _ _ _ _ us hl => match us, hl with | [_], _ => rfl
  have m_is_relink := PySem.W.mg_of X G a_is_relink
  have F_check_relink := fun_mk (st := s_check_relink) l_check_relink co_check_relink k_check_relink
  have b_check_relink := F_check_relink.binds (ps := ["value"]) fun _ _ _ _ _ _ us hl => match us, hl with | [_], _ => rfl
  have m_check_relink := PySem.W.mg_of X G a_check_relink
  have F_position := fun_mk (st := s_position) l_position co_position k_position
  have b_position := F_position.binds (ps := ["relink", "host"]) fun _ _ _ _ _ _ us hl => match us, hl with | [_, _], _ => rfl
  have m_position := PySem.W.mg_of X G a_position
  have F_end_bit := fun_mk (st := s_end_bit) l_end_bit co_end_bit k_end_bit
  have b_end_bit := F_end_bit.binds (ps := ["is_over_new_link", "may_cross"]) fun _ _ _ _ _ _ us hl => match us, hl with | [_, _], _ => rfl
  have m_end_bit := PySem.W.mg_of X G a_end_bit
  have F_forward_bit := fun_mk (st := s_forward_bit) l_forward_bit co_forward_bit k_forward_bit
  have b_forward_bit := F_forward_bit.binds (ps := ["relink", "host", "phase", "source", "goal", "bit"]) fun _ _ _ _ _ _ us hl => match us, hl with | [_, _, _, _, _, _], _ => rfl
  have m_forward_bit := PySem.W.mg_of X G a_forward_bit
  have F_forwards := fun_mk (st := s_forwards) l_forwards co_forwards k_forwards
  have m_forwards := PySem.W.mg_of X G a_forwards
  have F_are_message_parts := fun_mk (st := s_are_message_parts) l_are_message_parts co_are_message_parts k_are_message_parts
  have b_are_message_parts := F_are_message_parts.binds (ps := ["parts"]) fun _ _ _ _ _ _ us hl => match us, hl with | [_], _ => rfl
  have m_are_message_parts := PySem.W.mg_of X G a_are_message_parts
  have F_is_control_kind := fun_mk (st := s_is_control_kind) l_is_control_kind co_is_control_kind k_is_control_kind
  have b_is_control_kind := F_is_control_kind.binds (ps := ["value"]) fun _ _ _ _ _ _ us hl => match us, hl with | [_], _ => rfl
  have m_is_control_kind := PySem.W.mg_of X G a_is_control_kind
  have F_is_item := fun_mk (st := s_is_item) l_is_item co_is_item k_is_item
  have b_is_item := F_is_item.binds (ps := ["value"]) fun _ _ _ _ _ _ us hl => match us, hl with | [_], _ => rfl
  have m_is_item := PySem.W.mg_of X G a_is_item
  have F_check_item := fun_mk (st := s_check_item) l_check_item co_check_item k_check_item
  have b_check_item := F_check_item.binds (ps := ["value"]) fun _ _ _ _ _ _ us hl => match us, hl with | [_], _ => rfl
  have m_check_item := PySem.W.mg_of X G a_check_item
  have F_law_pot := fun_mk (st := s_law_pot) l_law_pot co_law_pot k_law_pot
  have b_law_pot := F_law_pot.binds (ps := ["_law_script", "_law_k"]) fun _ _ _ _ _ _ us hl => match us, hl with | [_, _], _ => rfl
  have m_law_pot := PySem.W.mg_of X G a_law_pot
  have F_law_draw := fun_mk (st := s_law_draw) l_law_draw co_law_draw k_law_draw
  have b_law_draw := F_law_draw.binds (ps := ["_law_pot_here", "_law_count"]) fun _ _ _ _ _ _ us hl => match us, hl with | [_, _], _ => rfl
  have m_law_draw := PySem.W.mg_of X G a_law_draw
  have F_law_choose := fun_mk (st := s_law_choose) l_law_choose co_law_choose k_law_choose
  have b_law_choose := F_law_choose.binds (ps := ["_law_pot_here", "_law_values"]) fun _ _ _ _ _ _ us hl => match us, hl with | [_, _], _ => rfl
  have m_law_choose := PySem.W.mg_of X G a_law_choose
  have F_law_name := fun_mk (st := s_law_name) l_law_name co_law_name k_law_name
  have b_law_name := F_law_name.binds (ps := ["_law_pot_here", "_law_used"]) fun _ _ _ _ _ _ us hl => match us, hl with | [_, _], _ => rfl
  have m_law_name := PySem.W.mg_of X G a_law_name
  have F_law_tree := fun_mk (st := s_law_tree) l_law_tree co_law_tree k_law_tree
  have b_law_tree := F_law_tree.binds (ps := ["_law_pot_here", "_law_least", "_law_most"]) fun _ _ _ _ _ _ us hl => match us, hl with | [_, _, _], _ => rfl
  have m_law_tree := PySem.W.mg_of X G a_law_tree
  have F_law_near := fun_mk (st := s_law_near) l_law_near co_law_near k_law_near
  have b_law_near := F_law_near.binds (ps := ["_law_pairs", "_law_host"]) fun _ _ _ _ _ _ us hl => match us, hl with | [_, _], _ => rfl
  have m_law_near := PySem.W.mg_of X G a_law_near
  have F_law_new := fun_mk (st := s_law_new) l_law_new co_law_new k_law_new
  have b_law_new := F_law_new.binds (ps := ["_law_name_here", "_law_linked_here", "_law_logged"]) fun _ _ _ _ _ _ us hl => match us, hl with | [_, _, _], _ => rfl
  have m_law_new := PySem.W.mg_of X G a_law_new
  have F_law_awaited := fun_mk (st := s_law_awaited) l_law_awaited co_law_awaited k_law_awaited
  have b_law_awaited := F_law_awaited.binds (ps := ["_law_model"]) fun _ _ _ _ _ _ us hl => match us, hl with | [_], _ => rfl
  have m_law_awaited := PySem.W.mg_of X G a_law_awaited
  have F_law_bit := fun_mk (st := s_law_bit) l_law_bit co_law_bit k_law_bit
  have b_law_bit := F_law_bit.binds (ps := ["_law_model", "_law_source", "_law_goal", "_law_bit_here"]) fun _ _ _ _ _ _ us hl => match us, hl with | [_, _, _, _], _ => rfl
  have m_law_bit := PySem.W.mg_of X G a_law_bit
  have F_law_spread := fun_mk (st := s_law_spread) l_law_spread co_law_spread k_law_spread
  have b_law_spread := F_law_spread.binds (ps := ["_law_model", "_law_message", "_law_source", "_law_bit_here"]) fun _ _ _ _ _ _ us hl => match us, hl with | [_, _, _, _], _ => rfl
  have m_law_spread := PySem.W.mg_of X G a_law_spread
  have F_law_unlinked := fun_mk (st := s_law_unlinked) l_law_unlinked co_law_unlinked k_law_unlinked
  have b_law_unlinked := F_law_unlinked.binds (ps := ["_law_model", "_law_other"]) fun _ _ _ _ _ _ us hl => match us, hl with | [_, _], _ => rfl
  have m_law_unlinked := PySem.W.mg_of X G a_law_unlinked
  have F_law_linked := fun_mk (st := s_law_linked) l_law_linked co_law_linked k_law_linked
  have b_law_linked := F_law_linked.binds (ps := ["_law_model", "_law_other"]) fun _ _ _ _ _ _ us hl => match us, hl with | [_, _], _ => rfl
  have m_law_linked := PySem.W.mg_of X G a_law_linked
  have F_law_asked := fun_mk (st := s_law_asked) l_law_asked co_law_asked k_law_asked
  have b_law_asked := F_law_asked.binds (ps := ["_law_model", "_law_source", "_law_item"]) fun _ _ _ _ _ _ us hl => match us, hl with | [_, _, _], _ => rfl
  have m_law_asked := PySem.W.mg_of X G a_law_asked
  have F_law_freed := fun_mk (st := s_law_freed) l_law_freed co_law_freed k_law_freed
  have b_law_freed := F_law_freed.binds (ps := ["_law_model"]) fun _ _ _ _ _ _ us hl => match us, hl with | [_], _ => rfl
  have m_law_freed := PySem.W.mg_of X G a_law_freed
  have F_law_finished := fun_mk (st := s_law_finished) l_law_finished co_law_finished k_law_finished
  have b_law_finished := F_law_finished.binds (ps := ["_law_model", "_law_outcome"]) fun _ _ _ _ _ _ us hl => match us, hl with | [_, _], _ => rfl
  have m_law_finished := PySem.W.mg_of X G a_law_finished
  have F_law_refused := fun_mk (st := s_law_refused) l_law_refused co_law_refused k_law_refused
  have b_law_refused := F_law_refused.binds (ps := ["_law_model"]) fun _ _ _ _ _ _ us hl => match us, hl with | [_], _ => rfl
  have m_law_refused := PySem.W.mg_of X G a_law_refused
  have F_law_agreed := fun_mk (st := s_law_agreed) l_law_agreed co_law_agreed k_law_agreed
  have b_law_agreed := F_law_agreed.binds (ps := ["_law_model", "_law_item"]) fun _ _ _ _ _ _ us hl => match us, hl with | [_, _], _ => rfl
  have m_law_agreed := PySem.W.mg_of X G a_law_agreed
  have F_law_gone_on := fun_mk (st := s_law_gone_on) l_law_gone_on co_law_gone_on k_law_gone_on
  have b_law_gone_on := F_law_gone_on.binds (ps := ["_law_model", "_law_item"]) fun _ _ _ _ _ _ us hl => match us, hl with | [_, _], _ => rfl
  have m_law_gone_on := PySem.W.mg_of X G a_law_gone_on
  have F_law_received := fun_mk (st := s_law_received) l_law_received co_law_received k_law_received
  have b_law_received := F_law_received.binds (ps := ["_law_model", "_law_source", "_law_item"]) fun _ _ _ _ _ _ us hl => match us, hl with | [_, _, _], _ => rfl
  have m_law_received := PySem.W.mg_of X G a_law_received
  have F_law_shown := fun_mk (st := s_law_shown) l_law_shown co_law_shown k_law_shown
  have b_law_shown := F_law_shown.binds (ps := ["_law_host"]) fun _ _ _ _ _ _ us hl => match us, hl with | [_], _ => rfl
  have m_law_shown := PySem.W.mg_of X G a_law_shown
  have F_law_agrees := fun_mk (st := s_law_agrees) l_law_agrees co_law_agrees k_law_agrees
  have b_law_agrees := F_law_agrees.binds (ps := ["_law_host", "_law_model"]) fun _ _ _ _ _ _ us hl => match us, hl with | [_, _], _ => rfl
  have m_law_agrees := PySem.W.mg_of X G a_law_agrees
  have F_law_world := fun_mk (st := s_law_world) l_law_world co_law_world k_law_world
  have b_law_world := F_law_world.binds (ps := ["_law_hosts", "_law_pairs"]) fun _ _ _ _ _ _ us hl => match us, hl with | [_, _], _ => rfl
  have m_law_world := PySem.W.mg_of X G a_law_world
  have F_law_posted := fun_mk (st := s_law_posted) l_law_posted co_law_posted k_law_posted
  have b_law_posted := F_law_posted.binds (ps := ["_law_world_here", "_law_source", "_law_sends"]) fun _ _ _ _ _ _ us hl => match us, hl with | [_, _, _], _ => rfl
  have m_law_posted := PySem.W.mg_of X G a_law_posted
  have F_law_busy := fun_mk (st := s_law_busy) l_law_busy co_law_busy k_law_busy
  have b_law_busy := F_law_busy.binds (ps := ["_law_world_here"]) fun _ _ _ _ _ _ us hl => match us, hl with | [_], _ => rfl
  have m_law_busy := PySem.W.mg_of X G a_law_busy
  have F_law_acted := fun_mk (st := s_law_acted) l_law_acted co_law_acted k_law_acted
  have b_law_acted := F_law_acted.binds (ps := ["_law_world_here", "_law_name_here", "_law_told", "_law_due"]) fun _ _ _ _ _ _ us hl => match us, hl with | [_, _, _, _], _ => rfl
  have m_law_acted := PySem.W.mg_of X G a_law_acted
  have F_law_delivered := fun_mk (st := s_law_delivered) l_law_delivered co_law_delivered k_law_delivered
  have b_law_delivered := F_law_delivered.binds (ps := ["_law_world_here", "_law_pair"]) fun _ _ _ _ _ _ us hl => match us, hl with | [_, _], _ => rfl
  have m_law_delivered := PySem.W.mg_of X G a_law_delivered
  have F_law_wrote := fun_mk (st := s_law_wrote) l_law_wrote co_law_wrote k_law_wrote
  have b_law_wrote := F_law_wrote.binds (ps := ["_law_world_here", "_law_name_here", "_law_word"]) fun _ _ _ _ _ _ us hl => match us, hl with | [_, _, _], _ => rfl
  have m_law_wrote := PySem.W.mg_of X G a_law_wrote
  have F_law_noted := fun_mk (st := s_law_noted) l_law_noted co_law_noted k_law_noted
  have b_law_noted := F_law_noted.binds (ps := ["_law_world_here", "_law_pasts", "_law_name_here", "_law_word"]) fun _ _ _ _ _ _ us hl => match us, hl with | [_, _, _, _], _ => rfl
  have m_law_noted := PySem.W.mg_of X G a_law_noted
  have F_law_at_rest := fun_mk (st := s_law_at_rest) l_law_at_rest co_law_at_rest k_law_at_rest
  have b_law_at_rest := F_law_at_rest.binds (ps := ["_law_pot_here", "_law_world_here"]) fun _ _ _ _ _ _ us hl => match us, hl with | [_, _], _ => rfl
  have m_law_at_rest := PySem.W.mg_of X G a_law_at_rest
  have F_law_causal := fun_mk (st := s_law_causal) l_law_causal co_law_causal k_law_causal
  have b_law_causal := F_law_causal.binds (ps := ["_law_world_here", "_law_pasts"]) fun _ _ _ _ _ _ us hl => match us, hl with | [_, _], _ => rfl
  have m_law_causal := PySem.W.mg_of X G a_law_causal
  have F_law_joined := fun_mk (st := s_law_joined) l_law_joined co_law_joined k_law_joined
  have b_law_joined := F_law_joined.binds (ps := ["_law_pot_here", "_law_world_here", "_law_pairs"]) fun _ _ _ _ _ _ us hl => match us, hl with | [_, _, _], _ => rfl
  have m_law_joined := PySem.W.mg_of X G a_law_joined
  have F_law_step := fun_mk (st := s_law_step) l_law_step co_law_step k_law_step
  have b_law_step := F_law_step.binds (ps := ["_law_pot_here", "_law_world_here", "_law_pairs", "_law_pasts"]) fun _ _ _ _ _ _ us hl => match us, hl with | [_, _, _, _], _ => rfl
  have m_law_step := PySem.W.mg_of X G a_law_step
  have F_law_tree_of := fun_mk (st := s_law_tree_of) l_law_tree_of co_law_tree_of k_law_tree_of
  have b_law_tree_of := F_law_tree_of.binds (ps := ["_law_world_here"]) fun _ _ _ _ _ _ us hl => match us, hl with | [_], _ => rfl
  have m_law_tree_of := PySem.W.mg_of X G a_law_tree_of
  have F_law_end_right := fun_mk (st := s_law_end_right) l_law_end_right co_law_end_right k_law_end_right
  have b_law_end_right := F_law_end_right.binds (ps := ["_law_world_here", "_law_words", "_law_pairs"]) fun _ _ _ _ _ _ us hl => match us, hl with | [_, _, _], _ => rfl
  have m_law_end_right := PySem.W.mg_of X G a_law_end_right
  have F_law := fun_mk (st := s_law) l_law co_law k_law
  have b_law := F_law.binds (ps := ["_law_script"]) fun _ _ _ _ _ _ us hl => match us, hl with | [_], _ => rfl
  have m_law := PySem.W.mg_of X G a_law
  have w_LETTERS := PySem.W.mg_of X G v_LETTERS
  have w_DIGITS := PySem.W.mg_of X G v_DIGITS
  have w_LONGEST_NAME := PySem.W.mg_of X G v_LONGEST_NAME
  have w_LONGEST_WORD := PySem.W.mg_of X G v_LONGEST_WORD
  have w_SHORTEST_PATH := PySem.W.mg_of X G v_SHORTEST_PATH
  have w_MESSAGE := PySem.W.mg_of X G v_MESSAGE
  have w_BYE := PySem.W.mg_of X G v_BYE
  have w_BITS := PySem.W.mg_of X G v_BITS
  have Y : Bn mg := ⟨PySem.W.mg_none_of X G z_len, PySem.W.mg_none_of X G z_range, PySem.W.mg_none_of X G z_abs, PySem.W.mg_none_of X G z_max, PySem.W.mg_none_of X G z_min, PySem.W.mg_none_of X G z_divmod, PySem.W.mg_none_of X G z_isinstance, PySem.W.mg_none_of X G z_str, PySem.W.mg_none_of X G z_int, PySem.W.mg_none_of X G z_bool, PySem.W.mg_none_of X G z_tuple, PySem.W.mg_none_of X G z_list, PySem.W.mg_none_of X G z_set, PySem.W.mg_none_of X G z_dict, PySem.W.mg_none_of X G z_all, PySem.W.mg_none_of X G z_any, PySem.W.mg_none_of X G z_repr, PySem.W.mg_none_of X G z_sorted, PySem.W.mg_none_of X G z_enumerate, PySem.W.mg_none_of X G z_zip⟩
  refine ⟨PySem.W.fnOf "law" "law" (defArgs s_law) (defBody s_law) (defScope s_law) .none kV_law dc_law pm_law an_law cd_law ct_law, fun s v => .of_eq rfl, fun base _ _ => ?_⟩
  have R_InvalidWord := S_InvalidWord.2 l.prog w mg base (PySem.W.mg_of X G e_InvalidWord)
  have R_InvalidName := S_InvalidName.2 l.prog w mg base (PySem.W.mg_of X G e_InvalidName)
  have R_InvalidItem := S_InvalidItem.2 l.prog w mg base (PySem.W.mg_of X G e_InvalidItem)
  have R_InvalidRelink := S_InvalidRelink.2 l.prog w mg base (PySem.W.mg_of X G e_InvalidRelink)
  have R_NameTaken := S_NameTaken.2 l.prog w mg base (PySem.W.mg_of X G e_NameTaken)
  have R_UnknownHost := S_UnknownHost.2 l.prog w mg base (PySem.W.mg_of X G e_UnknownHost)
  have TC : TxtC mg := ⟨⟨_, w_LETTERS⟩, ⟨_, w_LONGEST_NAME⟩⟩
  have TW : TxtW mg := ⟨⟨_, w_DIGITS⟩, ⟨_, w_LONGEST_WORD⟩⟩
  have TI : TxtI mg := ⟨⟨_, w_MESSAGE⟩, ⟨_, w_BYE⟩, ⟨_, w_BITS⟩⟩
  have TK : TxtK K mg := ⟨ck, o_ck, PySem.W.mg_of X G v_CK, l_CK, q_CK⟩
  have TCh : Ch K c_Host := ⟨⟨T_pg, T_hd, T_po, T_sa⟩, T_nown_name, T_nlinked, T_nlogged, T_njoined, T_nstage, T_nqueued, T_nfinished⟩
  have gT := PySem.W.mg_of X G e_Host
  have FTm_init := fun_mk (st := m_init) lTm_init cTm_init kTm_init
  have MTm_init : Meth K c_Host "__init__" fTm_init := ⟨aTm_init, iTm_init, kTm_init⟩
  have FTm_name := fun_mk (st := m_name) lTm_name cTm_name kTm_name
  have bTm_name := FTm_name.binds (ps := ["self"]) fun _ _ _ _ _ _ us hl => match us, hl with | [_], _ => rfl
  have MTm_name : Meth K c_Host "name" fTm_name := ⟨aTm_name, iTm_name, kTm_name⟩
  have FTm_log := fun_mk (st := m_log) lTm_log cTm_log kTm_log
  have bTm_log := FTm_log.binds (ps := ["self"]) fun _ _ _ _ _ _ us hl => match us, hl with | [_], _ => rfl
  have MTm_log : Meth K c_Host "log" fTm_log := ⟨aTm_log, iTm_log, kTm_log⟩
  have FTm_links := fun_mk (st := m_links) lTm_links cTm_links kTm_links
  have bTm_links := FTm_links.binds (ps := ["self"]) fun _ _ _ _ _ _ us hl => match us, hl with | [_], _ => rfl
  have MTm_links : Meth K c_Host "links" fTm_links := ⟨aTm_links, iTm_links, kTm_links⟩
  have FTm_answers := fun_mk (st := m_answers) lTm_answers cTm_answers kTm_answers
  have bTm_answers := FTm_answers.binds (ps := ["self"]) fun _ _ _ _ _ _ us hl => match us, hl with | [_], _ => rfl
  have MTm_answers : Meth K c_Host "answers" fTm_answers := ⟨aTm_answers, iTm_answers, kTm_answers⟩
  have FTm_relink := fun_mk (st := m_relink) lTm_relink cTm_relink kTm_relink
  have bTm_relink := FTm_relink.binds (ps := ["self"]) fun _ _ _ _ _ _ us hl => match us, hl with | [_], _ => rfl
  have MTm_relink : Meth K c_Host "relink" fTm_relink := ⟨aTm_relink, iTm_relink, kTm_relink⟩
  have FTm_phase := fun_mk (st := m_phase) lTm_phase cTm_phase kTm_phase
  have bTm_phase := FTm_phase.binds (ps := ["self"]) fun _ _ _ _ _ _ us hl => match us, hl with | [_], _ => rfl
  have MTm_phase : Meth K c_Host "phase" fTm_phase := ⟨aTm_phase, iTm_phase, kTm_phase⟩
  have FTm_queue := fun_mk (st := m_queue) lTm_queue cTm_queue kTm_queue
  have bTm_queue := FTm_queue.binds (ps := ["self"]) fun _ _ _ _ _ _ us hl => match us, hl with | [_], _ => rfl
  have MTm_queue : Meth K c_Host "queue" fTm_queue := ⟨aTm_queue, iTm_queue, kTm_queue⟩
  have FTm_waits_for := fun_mk (st := m_waits_for) lTm_waits_for cTm_waits_for kTm_waits_for
  have bTm_waits_for := FTm_waits_for.binds (ps := ["self"]) fun _ _ _ _ _ _ us hl => match us, hl with | [_], _ => rfl
  have MTm_waits_for : Meth K c_Host "waits_for" fTm_waits_for := ⟨aTm_waits_for, iTm_waits_for, kTm_waits_for⟩
  have FTm_write := fun_mk (st := m_write) lTm_write cTm_write kTm_write
  have bTm_write := FTm_write.binds (ps := ["self", "word"]) fun _ _ _ _ _ _ us hl => match us, hl with | [_, _], _ => rfl
  have MTm_write : Meth K c_Host "write" fTm_write := ⟨aTm_write, iTm_write, kTm_write⟩
  have FTm_receive := fun_mk (st := m_receive) lTm_receive cTm_receive kTm_receive
  have bTm_receive := FTm_receive.binds (ps := ["self", "source", "item"]) fun _ _ _ _ _ _ us hl => match us, hl with | [_, _, _], _ => rfl
  have MTm_receive : Meth K c_Host "receive" fTm_receive := ⟨aTm_receive, iTm_receive, kTm_receive⟩
  have FTm_add_link := fun_mk (st := m_add_link) lTm_add_link cTm_add_link kTm_add_link
  have bTm_add_link := FTm_add_link.binds (ps := ["self", "other"]) fun _ _ _ _ _ _ us hl => match us, hl with | [_, _], _ => rfl
  have MTm_add_link : Meth K c_Host "add_link" fTm_add_link := ⟨aTm_add_link, iTm_add_link, kTm_add_link⟩
  have FTm_join_to := fun_mk (st := m_join_to) lTm_join_to cTm_join_to kTm_join_to
  have bTm_join_to := FTm_join_to.binds (ps := ["self", "other"]) fun _ _ _ _ _ _ us hl => match us, hl with | [_, _], _ => rfl
  have MTm_join_to : Meth K c_Host "join_to" fTm_join_to := ⟨aTm_join_to, iTm_join_to, kTm_join_to⟩
  obtain ⟨eTm_log_and_forward, nTm_log_and_forward, qTm_log_and_forward⟩ := dqTm_log_and_forward
  have FTm_log_and_forward : FunD K "log_and_forward" "Host.log_and_forward" (defArgs m_log_and_forward) (defBody m_log_and_forward) (defScope m_log_and_forward) [V.non, V.int 0] [] fTm_log_and_forward (PySem.W.fnOf "log_and_forward" "Host.log_and_forward" (defArgs m_log_and_forward) (defBody m_log_and_forward) (defScope m_log_and_forward) (.ref TTm_log_and_forward) kVTm_log_and_forward dcTm_log_and_forward pmTm_log_and_forward anTm_log_and_forward cdTm_log_and_forward ctTm_log_and_forward) := ⟨⟨_, _, _, _, _, _, _, _, _, _, rfl, lTm_log_and_forward, cTm_log_and_forward, .inr ⟨(fun z => nomatch z), TTm_log_and_forward, oTTm_log_and_forward, [Value.none, Value.int 0 eTm_log_and_forward], nTm_log_and_forward, rfl, dlTm_log_and_forward, qTm_log_and_forward, (.cons (show RelV V.non Value.none from rfl) (.cons (show RelV (V.int 0) (Value.int 0 eTm_log_and_forward) from ⟨_, rfl⟩) .nil))⟩, .inl rfl⟩, kTm_log_and_forward⟩
  have bTm_log_and_forward : Binds K (PySem.W.fnOf "log_and_forward" "Host.log_and_forward" (defArgs m_log_and_forward) (defBody m_log_and_forward) (defScope m_log_and_forward) (.ref TTm_log_and_forward) kVTm_log_and_forward dcTm_log_and_forward pmTm_log_and_forward anTm_log_and_forward cdTm_log_and_forward ctTm_log_and_forward) ["self", "writer", "word", "source", "bit"] [] := by
    obtain ⟨ds, hv, hb⟩ := FTm_log_and_forward.binds1 (ps := ["self", "writer", "word", "source", "bit"]) 5 2 (fun z => nomatch z) rfl (fun T kV doc pm an cdv ct us its h1 h2 => match us, its, h1, h2 with | [_, _, _, _, _], [_, _], _, _ => ⟨_, rfl, rfl⟩)
    cases hv
    exact hb
  obtain ⟨dsL, vL, bL3⟩ := FTm_log_and_forward.binds1 (ps := ["self", "writer", "word", "source", "bit"]) 3 0 (fun z => nomatch z) rfl (fun T kV doc pm an cdv ct us its h1 h2 => match us, its, h1, h2 with | [_, _, _], [_, _], _, _ => ⟨_, rfl, rfl⟩)
  have MTm_log_and_forward : Meth K c_Host "log_and_forward" fTm_log_and_forward := ⟨aTm_log_and_forward, iTm_log_and_forward, kTm_log_and_forward⟩
  have FTm_accept := fun_mk (st := m_accept) lTm_accept cTm_accept kTm_accept
  have bTm_accept := FTm_accept.binds (ps := ["self", "source", "item"]) fun _ _ _ _ _ _ us hl => match us, hl with | [_, _, _], _ => rfl
  have MTm_accept : Meth K c_Host "accept" fTm_accept := ⟨aTm_accept, iTm_accept, kTm_accept⟩
  have FTm_accept_bye := fun_mk (st := m_accept_bye) lTm_accept_bye cTm_accept_bye kTm_accept_bye
  have bTm_accept_bye := FTm_accept_bye.binds (ps := ["self", "source"]) fun _ _ _ _ _ _ us hl => match us, hl with | [_, _], _ => rfl
  have MTm_accept_bye : Meth K c_Host "accept_bye" fTm_accept_bye := ⟨aTm_accept_bye, iTm_accept_bye, kTm_accept_bye⟩
  have FTm_can_join := fun_mk (st := m_can_join) lTm_can_join cTm_can_join kTm_can_join
  have bTm_can_join := FTm_can_join.binds (ps := ["self", "relink"]) fun _ _ _ _ _ _ us hl => match us, hl with | [_, _], _ => rfl
  have MTm_can_join : Meth K c_Host "can_join" fTm_can_join := ⟨aTm_can_join, iTm_can_join, kTm_can_join⟩
  have FTm_act := fun_mk (st := m_act) lTm_act cTm_act kTm_act
  have bTm_act := FTm_act.binds (ps := ["self", "relink", "kind"]) fun _ _ _ _ _ _ us hl => match us, hl with | [_, _, _], _ => rfl
  have MTm_act : Meth K c_Host "act" fTm_act := ⟨aTm_act, iTm_act, kTm_act⟩
  have MKT : Mk K c_Host fTm_init := ⟨T_mk, aTm_init, iTm_init, T_kc⟩
  have FDI : FunD K "__init__" "Host.__init__" (defArgs m_init) (defBody m_init) (defScope m_init) [] [("log", .ref eTI)] fTm_init (PySem.W.fnOf "__init__" "Host.__init__" (defArgs m_init) (defBody m_init) (defScope m_init) .none kVTm_init dcTm_init pmTm_init anTm_init cdTm_init ctTm_init) := ⟨⟨_, _, _, _, _, _, _, _, _, _, rfl, lTm_init, cTm_init, .inl ⟨rfl, rfl⟩, .inr ⟨dkI, kq_i, fun q hq => by
    rw [List.mem_singleton.mp hq]
    exact ⟨_, kn_i, rfl⟩⟩⟩, kTm_init⟩
  have G_is_integer_from := (⟨⟨_, _, m_is_integer_from, k_is_integer_from, b_is_integer_from, ok_from F_is_integer_from Y⟩⟩ : Fk l.prog w K mg base _ _ "is_integer_from" _ _)
  have G_is_index := (⟨⟨_, _, m_is_index, k_is_index, b_is_index, ok_idx F_is_index G_is_integer_from⟩⟩ : Fk l.prog w K mg base _ _ "is_index" _ _)
  have G_is_text_of := (⟨⟨_, _, m_is_text_of, k_is_text_of, b_is_text_of, ok_text F_is_text_of Y⟩⟩ : Fk l.prog w K mg base _ _ "is_text_of" _ _)
  have G_is_host_name := (⟨⟨_, _, m_is_host_name, k_is_host_name, b_is_host_name, ok_host F_is_host_name TC G_is_text_of⟩⟩ : Fk l.prog w K mg base _ _ "is_host_name" _ _)
  have G_is_word := (⟨⟨_, _, m_is_word, k_is_word, b_is_word, ok_word F_is_word TC TW G_is_text_of⟩⟩ : Fk l.prog w K mg base _ _ "is_word" _ _)
  have G_is_relink_path := (⟨⟨_, _, m_is_relink_path, k_is_relink_path, b_is_relink_path, ok_path F_is_relink_path Y ⟨_, w_SHORTEST_PATH⟩ G_is_host_name⟩⟩ : Fk l.prog w K mg base _ _ "is_relink_path" _ _)
  have G_is_cut_of := (⟨⟨_, _, m_is_cut_of, k_is_cut_of, b_is_cut_of, ok_cut F_is_cut_of Y G_is_index⟩⟩ : Fk l.prog w K mg base _ _ "is_cut_of" _ _)
  have G_is_relink := (⟨⟨_, _, m_is_relink, k_is_relink, b_is_relink, ok_rel F_is_relink Y G_is_relink_path G_is_cut_of⟩⟩ : Fk l.prog w K mg base _ _ "is_relink" _ _)
  have G_check_relink := (⟨⟨_, _, m_check_relink, k_check_relink, b_check_relink, ok_chk F_check_relink R_InvalidRelink G_is_relink⟩⟩ : Fk l.prog w K mg base _ _ "check_relink" _ _)
  have G_position := (⟨⟨_, _, m_position, k_position, b_position, ok_pos F_position R_UnknownHost G_check_relink G_is_host_name⟩⟩ : Fk l.prog w K mg base _ _ "position" _ _)
  have G_end_bit := (⟨⟨_, _, m_end_bit, k_end_bit, b_end_bit, ok_end F_end_bit⟩⟩ : Fk l.prog w K mg base _ _ "end_bit" _ _)
  have G_forward_bit := (⟨⟨_, _, m_forward_bit, k_forward_bit, b_forward_bit, ok_fwd F_forward_bit Y G_position G_end_bit⟩⟩ : Fk l.prog w K mg base _ _ "forward_bit" _ _)
  have GP_forwards := (⟨⟨_, _, _, m_forwards, k_forwards, kbn_fwd F_forwards (ps := ["links", "source", "bit", "relink", "host", "phase"]) (ks := ["source", "bit", "relink", "host", "phase"]) (n := 1) (fun _ _ _ _ _ _ us ws h1 h2 => match us, ws, h1, h2 with | [_], [_, _, _, _, _], _, _ => rfl), ok_forw F_forwards Y G_position G_forward_bit⟩⟩ : Fw l.prog w K mg base _ _ "forwards" _ _ _ _ _)
  have G_are_message_parts := (⟨⟨_, _, m_are_message_parts, k_are_message_parts, b_are_message_parts, ok_msg F_are_message_parts Y TI G_is_host_name G_is_word G_is_index⟩⟩ : Fk l.prog w K mg base _ _ "are_message_parts" _ _)
  have G_is_control_kind := (⟨⟨_, _, m_is_control_kind, k_is_control_kind, b_is_control_kind, ok_kind F_is_control_kind Y TK⟩⟩ : Fk l.prog w K mg base _ _ "is_control_kind" _ _)
  have G_is_item := (⟨⟨_, _, m_is_item, k_is_item, b_is_item, ok_item F_is_item Y TI G_are_message_parts G_is_control_kind G_is_relink⟩⟩ : Fk l.prog w K mg base _ _ "is_item" _ _)
  have G_check_item := (⟨⟨_, _, m_check_item, k_check_item, b_check_item, ok_chkI F_check_item R_InvalidItem G_is_item⟩⟩ : Fk l.prog w K mg base _ _ "check_item" _ _)
  have OKI := ok_hinit (C := c_Host) (P := l.prog) (w := w) (base := base) FTm_init Y TCh
  have MIH : MkH l.prog w K mg base c_Host := ⟨gT, ⟨_, _, _, MKT, kbn_fwd FTm_init (ps := ["self", "name", "links", "log"]) (ks := ["links", "log"]) (n := 2) (fun _ _ _ _ _ _ us ws h1 h2 => match us, ws, h1, h2 with | [_, _], [_, _], _, _ => rfl), OKI⟩⟩
  obtain ⟨gIZ, kbIZ⟩ := kb_init FDI
  have MIZ : MkH0 l.prog w K mg base c_Host := ⟨gT, ⟨_, _, gIZ, eTI, MKT, kbIZ, sq_empty ke_i kz_i, OKI⟩⟩
  have M_name := (⟨⟨_, _, MTm_name, bTm_name, ok_name_ (C := c_Host) (P := l.prog) (w := w) (base := base) FTm_name TCh⟩⟩ : Fm l.prog w K mg base _ _ c_Host "name" _ _)
  have M_log := (⟨⟨_, _, MTm_log, bTm_log, ok_log_ (C := c_Host) (P := l.prog) (w := w) (base := base) FTm_log Y TCh⟩⟩ : Fm l.prog w K mg base _ _ c_Host "log" _ _)
  have M_links := (⟨⟨_, _, MTm_links, bTm_links, ok_links_ (C := c_Host) (P := l.prog) (w := w) (base := base) FTm_links Y TCh⟩⟩ : Fm l.prog w K mg base _ _ c_Host "links" _ _)
  have M_answers := (⟨⟨_, _, MTm_answers, bTm_answers, ok_answers_ (C := c_Host) (P := l.prog) (w := w) (base := base) FTm_answers Y TCh⟩⟩ : Fm l.prog w K mg base _ _ c_Host "answers" _ _)
  have M_relink := (⟨⟨_, _, MTm_relink, bTm_relink, ok_relink_ (C := c_Host) (P := l.prog) (w := w) (base := base) FTm_relink TCh⟩⟩ : Fm l.prog w K mg base _ _ c_Host "relink" _ _)
  have M_phase := (⟨⟨_, _, MTm_phase, bTm_phase, ok_phase_ (C := c_Host) (P := l.prog) (w := w) (base := base) FTm_phase TCh⟩⟩ : Fm l.prog w K mg base _ _ c_Host "phase" _ _)
  have M_queue := (⟨⟨_, _, MTm_queue, bTm_queue, ok_queue_ (C := c_Host) (P := l.prog) (w := w) (base := base) FTm_queue Y TCh⟩⟩ : Fm l.prog w K mg base _ _ c_Host "queue" _ _)
  have M_join_to := (⟨⟨_, _, MTm_join_to, bTm_join_to, ok_join (C := c_Host) (P := l.prog) (w := w) (base := base) FTm_join_to Y TCh⟩⟩ : Fm l.prog w K mg base _ _ c_Host "join_to" _ _)
  have M_waits_for := (⟨⟨_, _, MTm_waits_for, bTm_waits_for, ok_wait (C := c_Host) (P := l.prog) (w := w) (base := base) FTm_waits_for TCh⟩⟩ : Fm l.prog w K mg base _ _ c_Host "waits_for" _ _)
  have M_add_link := (⟨⟨_, _, MTm_add_link, bTm_add_link, ok_addl (C := c_Host) (P := l.prog) (w := w) (base := base) FTm_add_link Y TCh R_InvalidName R_NameTaken G_is_host_name M_join_to⟩⟩ : Fm l.prog w K mg base _ _ c_Host "add_link" _ _)
  have M_log_and_forward := (⟨⟨_, _, MTm_log_and_forward, bTm_log_and_forward, ok_laf (C := c_Host) (P := l.prog) (w := w) (base := base) FTm_log_and_forward Y TCh GP_forwards⟩⟩ : Fm l.prog w K mg base _ _ c_Host "log_and_forward" _ _)
  have M_accept_bye := (⟨⟨_, _, MTm_accept_bye, bTm_accept_bye, (no_ok : FnOk l.prog w K mg base CX0 1 _ _ _ spNo)⟩⟩ : Fm l.prog w K mg base _ _ c_Host "accept_bye" _ _)
  have M_can_join := (⟨⟨_, _, MTm_can_join, bTm_can_join, (no_ok : FnOk l.prog w K mg base CX0 1 _ _ _ spNo)⟩⟩ : Fm l.prog w K mg base _ _ c_Host "can_join" _ _)
  have M_act := (⟨⟨_, _, MTm_act, bTm_act, (no_ok : FnOk l.prog w K mg base CX0 1 _ _ _ spNo)⟩⟩ : Fm l.prog w K mg base _ _ c_Host "act" _ _)
  have M_laf := (⟨⟨_, _, dsL, MTm_log_and_forward, vL, bL3, ok_laf (C := c_Host) (P := l.prog) (w := w) (base := base) FTm_log_and_forward Y TCh GP_forwards⟩⟩ : FmD l.prog w K mg base _ _ c_Host "log_and_forward" _ _ _)
  have M_accept := (⟨⟨_, _, MTm_accept, bTm_accept, ok_accM (C := c_Host) (P := l.prog) (w := w) (base := base) FTm_accept Y TCh M_waits_for M_log_and_forward M_accept_bye M_can_join M_act⟩⟩ : Fm l.prog w K mg base _ _ c_Host "accept" _ _)
  have M_write := (⟨⟨_, _, MTm_write, bTm_write, ok_write (C := c_Host) (P := l.prog) (w := w) (base := base) FTm_write Y TCh R_InvalidWord G_is_word M_laf⟩⟩ : Fm l.prog w K mg base _ _ c_Host "write" _ _)
  have M_receive := (⟨⟨_, _, MTm_receive, bTm_receive, ok_recvM' (C := c_Host) (P := l.prog) (w := w) (base := base) FTm_receive TCh R_InvalidName G_is_host_name G_check_item M_accept⟩⟩ : Fm l.prog w K mg base _ _ c_Host "receive" _ _)
  have G_law_pot := (⟨⟨_, _, m_law_pot, k_law_pot, b_law_pot, ok_pot F_law_pot Y⟩⟩ : Fk l.prog w K mg base _ _ "_law_pot" _ _)
  have G_law_draw := (⟨⟨_, _, m_law_draw, k_law_draw, b_law_draw, ok_draw F_law_draw Y⟩⟩ : Fk l.prog w K mg base _ _ "_law_draw" _ _)
  have G_law_choose := (⟨⟨_, _, m_law_choose, k_law_choose, b_law_choose, ok_choose F_law_choose Y G_law_draw⟩⟩ : Fk l.prog w K mg base _ _ "_law_choose" _ _)
  have G_law_name := (⟨⟨_, _, m_law_name, k_law_name, b_law_name, ok_name F_law_name Y G_law_draw⟩⟩ : Fk l.prog w K mg base _ _ "_law_name" _ _)
  have G_law_tree := (⟨⟨_, _, m_law_tree, k_law_tree, b_law_tree, ok_tree F_law_tree Y G_law_draw G_law_name⟩⟩ : Fk l.prog w K mg base _ _ "_law_tree" _ _)
  have G_law_near := (⟨⟨_, _, m_law_near, k_law_near, b_law_near, ok_near F_law_near Y⟩⟩ : Fk l.prog w K mg base _ _ "_law_near" _ _)
  have G_law_new := (⟨⟨_, _, m_law_new, k_law_new, b_law_new, ok_new F_law_new Y⟩⟩ : Fk l.prog w K mg base _ _ "_law_new" _ _)
  have G_law_awaited := (⟨⟨_, _, m_law_awaited, k_law_awaited, b_law_awaited, ok_aw F_law_awaited Y⟩⟩ : Fk l.prog w K mg base _ _ "_law_awaited" _ _)
  have G_law_bit := (⟨⟨_, _, m_law_bit, k_law_bit, b_law_bit, ok_bit F_law_bit Y⟩⟩ : Fk l.prog w K mg base _ _ "_law_bit" _ _)
  have G_law_spread := (⟨⟨_, _, m_law_spread, k_law_spread, b_law_spread, ok_sprM F_law_spread Y G_law_bit⟩⟩ : Fk l.prog w K mg base _ _ "_law_spread" _ _)
  have G_law_unlinked := (⟨⟨_, _, m_law_unlinked, k_law_unlinked, b_law_unlinked, ok_unl F_law_unlinked Y⟩⟩ : Fk l.prog w K mg base _ _ "_law_unlinked" _ _)
  have G_law_linked := (⟨⟨_, _, m_law_linked, k_law_linked, b_law_linked, ok_lnk F_law_linked Y⟩⟩ : Fk l.prog w K mg base _ _ "_law_linked" _ _)
  have G_law_asked := (⟨⟨_, _, m_law_asked, k_law_asked, b_law_asked, no_ok⟩⟩ : Fk l.prog w K mg base _ _ "_law_asked" _ _)
  have G_law_freed := (⟨⟨_, _, m_law_freed, k_law_freed, b_law_freed, no_ok⟩⟩ : Fk l.prog w K mg base _ _ "_law_freed" _ _)
  have G_law_finished := (⟨⟨_, _, m_law_finished, k_law_finished, b_law_finished, no_ok⟩⟩ : Fk l.prog w K mg base _ _ "_law_finished" _ _)
  have G_law_refused := (⟨⟨_, _, m_law_refused, k_law_refused, b_law_refused, no_ok⟩⟩ : Fk l.prog w K mg base _ _ "_law_refused" _ _)
  have G_law_agreed := (⟨⟨_, _, m_law_agreed, k_law_agreed, b_law_agreed, no_ok⟩⟩ : Fk l.prog w K mg base _ _ "_law_agreed" _ _)
  have G_law_gone_on := (⟨⟨_, _, m_law_gone_on, k_law_gone_on, b_law_gone_on, no_ok⟩⟩ : Fk l.prog w K mg base _ _ "_law_gone_on" _ _)
  have G_law_received := (⟨⟨_, _, m_law_received, k_law_received, b_law_received, ok_recM F_law_received Y G_law_awaited G_law_asked G_law_spread G_law_agreed G_law_gone_on G_law_freed G_law_finished G_law_unlinked G_law_refused⟩⟩ : Fk l.prog w K mg base _ _ "_law_received" _ _)
  have G_law_shown := (⟨⟨_, _, m_law_shown, k_law_shown, b_law_shown, ok_shown F_law_shown Y TCh M_name M_log M_links M_answers M_relink M_phase M_queue⟩⟩ : Fg l.prog w K mg base _ _ "_law_shown" _ _)
  have G_law_agrees := (⟨⟨_, _, m_law_agrees, k_law_agrees, b_law_agrees, ok_agr F_law_agrees Y TCh G_law_shown M_waits_for G_law_awaited⟩⟩ : Fg l.prog w K mg base _ _ "_law_agrees" _ _)
  have G_law_world := (⟨⟨_, _, m_law_world, k_law_world, b_law_world, ok_world F_law_world Y TCh MIZ G_law_near G_law_new⟩⟩ : Fk l.prog w K mg base _ _ "_law_world" _ _)
  have G_law_posted := (⟨⟨_, _, m_law_posted, k_law_posted, b_law_posted, ok_posted (C := c_Host) F_law_posted Y⟩⟩ : Fk l.prog w K mg base _ _ "_law_posted" _ _)
  have G_law_busy := (⟨⟨_, _, m_law_busy, k_law_busy, b_law_busy, ok_busy (C := c_Host) F_law_busy Y⟩⟩ : Fk l.prog w K mg base _ _ "_law_busy" _ _)
  have G_law_acted := (⟨⟨_, _, m_law_acted, k_law_acted, b_law_acted, ok_acted F_law_acted Y G_law_posted G_law_agrees⟩⟩ : Fg l.prog w K mg base _ _ "_law_acted" _ _)
  have G_law_delivered := (⟨⟨_, _, m_law_delivered, k_law_delivered, b_law_delivered, ok_del F_law_delivered Y TCh M_receive G_law_received G_law_acted⟩⟩ : Fg l.prog w K mg base _ _ "_law_delivered" _ _)
  have G_law_wrote := (⟨⟨_, _, m_law_wrote, k_law_wrote, b_law_wrote, ok_wr F_law_wrote Y TCh M_write G_law_spread G_law_acted⟩⟩ : Fg l.prog w K mg base _ _ "_law_wrote" _ _)
  have G_law_noted := (⟨⟨_, _, m_law_noted, k_law_noted, b_law_noted, ok_nt F_law_noted Y TCh M_log G_law_wrote⟩⟩ : Fg l.prog w K mg base _ _ "_law_noted" _ _)
  have G_law_at_rest := (⟨⟨_, _, m_law_at_rest, k_law_at_rest, b_law_at_rest, ok_rest F_law_at_rest Y G_law_busy G_law_choose G_law_delivered⟩⟩ : Fg l.prog w K mg base _ _ "_law_at_rest" _ _)
  have G_law_causal := (⟨⟨_, _, m_law_causal, k_law_causal, b_law_causal, ok_cau F_law_causal Y TCh M_log⟩⟩ : Fk l.prog w K mg base _ _ "_law_causal" _ _)
  have G_law_joined := (⟨⟨_, _, m_law_joined, k_law_joined, b_law_joined, ok_jd F_law_joined Y TCh MIH M_log M_add_link G_law_name G_law_choose G_law_linked G_law_new G_law_agrees⟩⟩ : Fg l.prog w K mg base _ _ "_law_joined" _ _)
  have G_law_step := (⟨⟨_, _, m_law_step, k_law_step, b_law_step, ok_step F_law_step Y G_law_draw G_law_busy G_law_choose G_law_noted G_law_joined G_law_delivered⟩⟩ : Fg l.prog w K mg base _ _ "_law_step" _ _)
  have G_law_tree_of := (⟨⟨_, _, m_law_tree_of, k_law_tree_of, b_law_tree_of, ok_to F_law_tree_of Y TCh M_links⟩⟩ : Fk l.prog w K mg base _ _ "_law_tree_of" _ _)
  have G_law_end_right := (⟨⟨_, _, m_law_end_right, k_law_end_right, b_law_end_right, ok_er F_law_end_right Y TCh M_log M_phase M_queue G_law_tree_of⟩⟩ : Fk l.prog w K mg base _ _ "_law_end_right" _ _)
  exact ok_law F_law Y G_law_pot G_law_draw G_law_tree G_law_world G_law_step G_law_at_rest G_law_causal G_law_end_right
end My

open PySem PySem.W PyProof.Rows in
set_option maxRecDepth 100000 in
set_option maxHeartbeats 0 in
theorem PySem.Challenge.cw_relinktree_k41_whole_free_hosts_flood_holds : PySem.Challenge.rw_relinktree_k41_whole_free_hosts_flood.Holds := by
  w_on; o_law; k_head; (case hw => w_witness2)
  k_fill
  refine Gy.walk_g (l := PySem.Challenge.rw_relinktree_k41_whole_free_hosts_flood) (n := 63) (k := 15) (x := "_law_script") (sp := My.spLaw) rfl (by decide) rfl ⟨rfl, by decide, by decide⟩ (fun w h Y => PySem.W.kIn_of Y) ?F (fun K H a ns hl hS => ⟨a, ns, rfl, hS, hl, fun _ => rfl⟩)
  case F =>
    intro w mg fa h KX G hmg
    refine' My.all_mk KX G hmg ?a_is_integer_from ?l_is_integer_from ?co_is_integer_from ?k_is_integer_from ?a_is_index ?l_is_index ?co_is_index ?k_is_index ?a_is_text_of ?l_is_text_of ?co_is_text_of ?k_is_text_of ?a_is_host_name ?l_is_host_name ?co_is_host_name ?k_is_host_name ?a_is_word ?l_is_word ?co_is_word ?k_is_word ?a_is_relink_path ?l_is_relink_path ?co_is_relink_path ?k_is_relink_path ?a_is_cut_of ?l_is_cut_of ?co_is_cut_of ?k_is_cut_of ?a_is_relink ?l_is_relink ?co_is_relink ?k_is_relink ?a_check_relink ?l_check_relink ?co_check_relink ?k_check_relink ?a_position ?l_position ?co_position ?k_position ?a_end_bit ?l_end_bit ?co_end_bit ?k_end_bit ?a_forward_bit ?l_forward_bit ?co_forward_bit ?k_forward_bit ?a_forwards ?l_forwards ?co_forwards ?k_forwards ?a_are_message_parts ?l_are_message_parts ?co_are_message_parts ?k_are_message_parts ?a_is_control_kind ?l_is_control_kind ?co_is_control_kind ?k_is_control_kind ?a_is_item ?l_is_item ?co_is_item ?k_is_item ?a_check_item ?l_check_item ?co_check_item ?k_check_item ?a_law_pot ?l_law_pot ?co_law_pot ?k_law_pot ?a_law_draw ?l_law_draw ?co_law_draw ?k_law_draw ?a_law_choose ?l_law_choose ?co_law_choose ?k_law_choose ?a_law_name ?l_law_name ?co_law_name ?k_law_name ?a_law_tree ?l_law_tree ?co_law_tree ?k_law_tree ?a_law_near ?l_law_near ?co_law_near ?k_law_near ?a_law_new ?l_law_new ?co_law_new ?k_law_new ?a_law_awaited ?l_law_awaited ?co_law_awaited ?k_law_awaited ?a_law_bit ?l_law_bit ?co_law_bit ?k_law_bit ?a_law_spread ?l_law_spread ?co_law_spread ?k_law_spread ?a_law_unlinked ?l_law_unlinked ?co_law_unlinked ?k_law_unlinked ?a_law_linked ?l_law_linked ?co_law_linked ?k_law_linked ?a_law_asked ?l_law_asked ?co_law_asked ?k_law_asked ?a_law_freed ?l_law_freed ?co_law_freed ?k_law_freed ?a_law_finished ?l_law_finished ?co_law_finished ?k_law_finished ?a_law_refused ?l_law_refused ?co_law_refused ?k_law_refused ?a_law_agreed ?l_law_agreed ?co_law_agreed ?k_law_agreed ?a_law_gone_on ?l_law_gone_on ?co_law_gone_on ?k_law_gone_on ?a_law_received ?l_law_received ?co_law_received ?k_law_received ?a_law_shown ?l_law_shown ?co_law_shown ?k_law_shown ?a_law_agrees ?l_law_agrees ?co_law_agrees ?k_law_agrees ?a_law_world ?l_law_world ?co_law_world ?k_law_world ?a_law_posted ?l_law_posted ?co_law_posted ?k_law_posted ?a_law_busy ?l_law_busy ?co_law_busy ?k_law_busy ?a_law_acted ?l_law_acted ?co_law_acted ?k_law_acted ?a_law_delivered ?l_law_delivered ?co_law_delivered ?k_law_delivered ?a_law_wrote ?l_law_wrote ?co_law_wrote ?k_law_wrote ?a_law_noted ?l_law_noted ?co_law_noted ?k_law_noted ?a_law_at_rest ?l_law_at_rest ?co_law_at_rest ?k_law_at_rest ?a_law_causal ?l_law_causal ?co_law_causal ?k_law_causal ?a_law_joined ?l_law_joined ?co_law_joined ?k_law_joined ?a_law_step ?l_law_step ?co_law_step ?k_law_step ?a_law_tree_of ?l_law_tree_of ?co_law_tree_of ?k_law_tree_of ?a_law_end_right ?l_law_end_right ?co_law_end_right ?k_law_end_right ?a_law ?l_law ?co_law ?k_law ?v_LETTERS ?v_DIGITS ?v_LONGEST_NAME ?v_LONGEST_WORD ?v_SHORTEST_PATH ?v_MESSAGE ?v_BYE ?v_BITS ?z_len ?z_range ?z_abs ?z_max ?z_min ?z_divmod ?z_isinstance ?z_str ?z_int ?z_bool ?z_tuple ?z_list ?z_set ?z_dict ?z_all ?z_any ?z_repr ?z_sorted ?z_enumerate ?z_zip ?e_InvalidWord ?S_InvalidWord ?e_InvalidName ?S_InvalidName ?e_InvalidItem ?S_InvalidItem ?e_InvalidRelink ?S_InvalidRelink ?e_NameTaken ?S_NameTaken ?e_UnknownHost ?S_UnknownHost ?v_CK ?l_CK ?q_CK ?e_Host ?T_pg ?T_hd ?T_po ?T_sa ?T_mk ?T_kc ?T_nown_name ?T_nlinked ?T_nlogged ?T_njoined ?T_nstage ?T_nqueued ?T_nfinished ?aTm_init ?iTm_init ?lTm_init ?cTm_init ?kTm_init ?aTm_name ?iTm_name ?lTm_name ?cTm_name ?kTm_name ?aTm_log ?iTm_log ?lTm_log ?cTm_log ?kTm_log ?aTm_links ?iTm_links ?lTm_links ?cTm_links ?kTm_links ?aTm_answers ?iTm_answers ?lTm_answers ?cTm_answers ?kTm_answers ?aTm_relink ?iTm_relink ?lTm_relink ?cTm_relink ?kTm_relink ?aTm_phase ?iTm_phase ?lTm_phase ?cTm_phase ?kTm_phase ?aTm_queue ?iTm_queue ?lTm_queue ?cTm_queue ?kTm_queue ?aTm_waits_for ?iTm_waits_for ?lTm_waits_for ?cTm_waits_for ?kTm_waits_for ?aTm_write ?iTm_write ?lTm_write ?cTm_write ?kTm_write ?aTm_receive ?iTm_receive ?lTm_receive ?cTm_receive ?kTm_receive ?aTm_add_link ?iTm_add_link ?lTm_add_link ?cTm_add_link ?kTm_add_link ?aTm_join_to ?iTm_join_to ?lTm_join_to ?cTm_join_to ?kTm_join_to ?aTm_log_and_forward ?iTm_log_and_forward ?lTm_log_and_forward ?cTm_log_and_forward ?kTm_log_and_forward ?dlTm_log_and_forward ?dqTm_log_and_forward ?aTm_accept ?iTm_accept ?lTm_accept ?cTm_accept ?kTm_accept ?aTm_accept_bye ?iTm_accept_bye ?lTm_accept_bye ?cTm_accept_bye ?kTm_accept_bye ?aTm_can_join ?iTm_can_join ?lTm_can_join ?cTm_can_join ?kTm_can_join ?aTm_act ?iTm_act ?lTm_act ?cTm_act ?kTm_act ?kq_i ?kn_i ?ke_i ?kz_i
    (case a_is_integer_from => k_is)
    (case l_is_integer_from => k_is)
    (case co_is_integer_from => k_is)
    (case k_is_integer_from => k_is)
    (case a_is_index => k_is)
    (case l_is_index => k_is)
    (case co_is_index => k_is)
    (case k_is_index => k_is)
    (case a_is_text_of => k_is)
    (case l_is_text_of => k_is)
    (case co_is_text_of => k_is)
    (case k_is_text_of => k_is)
    (case a_is_host_name => k_is)
    (case l_is_host_name => k_is)
    (case co_is_host_name => k_is)
    (case k_is_host_name => k_is)
    (case a_is_word => k_is)
    (case l_is_word => k_is)
    (case co_is_word => k_is)
    (case k_is_word => k_is)
    (case a_is_relink_path => k_is)
    (case l_is_relink_path => k_is)
    (case co_is_relink_path => k_is)
    (case k_is_relink_path => k_is)
    (case a_is_cut_of => k_is)
    (case l_is_cut_of => k_is)
    (case co_is_cut_of => k_is)
    (case k_is_cut_of => k_is)
    (case a_is_relink => k_is)
    (case l_is_relink => k_is)
    (case co_is_relink => k_is)
    (case k_is_relink => k_is)
    (case a_check_relink => k_is)
    (case l_check_relink => k_is)
    (case co_check_relink => k_is)
    (case k_check_relink => k_is)
    (case a_position => k_is)
    (case l_position => k_is)
    (case co_position => k_is)
    (case k_position => k_is)
    (case a_end_bit => k_is)
    (case l_end_bit => k_is)
    (case co_end_bit => k_is)
    (case k_end_bit => k_is)
    (case a_forward_bit => k_is)
    (case l_forward_bit => k_is)
    (case co_forward_bit => k_is)
    (case k_forward_bit => k_is)
    (case a_forwards => k_is)
    (case l_forwards => k_is)
    (case co_forwards => k_is)
    (case k_forwards => k_is)
    (case a_are_message_parts => k_is)
    (case l_are_message_parts => k_is)
    (case co_are_message_parts => k_is)
    (case k_are_message_parts => k_is)
    (case a_is_control_kind => k_is)
    (case l_is_control_kind => k_is)
    (case co_is_control_kind => k_is)
    (case k_is_control_kind => k_is)
    (case a_is_item => k_is)
    (case l_is_item => k_is)
    (case co_is_item => k_is)
    (case k_is_item => k_is)
    (case a_check_item => k_is)
    (case l_check_item => k_is)
    (case co_check_item => k_is)
    (case k_check_item => k_is)
    (case a_law_pot => k_is)
    (case l_law_pot => k_is)
    (case co_law_pot => k_is)
    (case k_law_pot => k_is)
    (case a_law_draw => k_is)
    (case l_law_draw => k_is)
    (case co_law_draw => k_is)
    (case k_law_draw => k_is)
    (case a_law_choose => k_is)
    (case l_law_choose => k_is)
    (case co_law_choose => k_is)
    (case k_law_choose => k_is)
    (case a_law_name => k_is)
    (case l_law_name => k_is)
    (case co_law_name => k_is)
    (case k_law_name => k_is)
    (case a_law_tree => k_is)
    (case l_law_tree => k_is)
    (case co_law_tree => k_is)
    (case k_law_tree => k_is)
    (case a_law_near => k_is)
    (case l_law_near => k_is)
    (case co_law_near => k_is)
    (case k_law_near => k_is)
    (case a_law_new => k_is)
    (case l_law_new => k_is)
    (case co_law_new => k_is)
    (case k_law_new => k_is)
    (case a_law_awaited => k_is)
    (case l_law_awaited => k_is)
    (case co_law_awaited => k_is)
    (case k_law_awaited => k_is)
    (case a_law_bit => k_is)
    (case l_law_bit => k_is)
    (case co_law_bit => k_is)
    (case k_law_bit => k_is)
    (case a_law_spread => k_is)
    (case l_law_spread => k_is)
    (case co_law_spread => k_is)
    (case k_law_spread => k_is)
    (case a_law_unlinked => k_is)
    (case l_law_unlinked => k_is)
    (case co_law_unlinked => k_is)
    (case k_law_unlinked => k_is)
    (case a_law_linked => k_is)
    (case l_law_linked => k_is)
    (case co_law_linked => k_is)
    (case k_law_linked => k_is)
    (case a_law_asked => k_is)
    (case l_law_asked => k_is)
    (case co_law_asked => k_is)
    (case k_law_asked => k_is)
    (case a_law_freed => k_is)
    (case l_law_freed => k_is)
    (case co_law_freed => k_is)
    (case k_law_freed => k_is)
    (case a_law_finished => k_is)
    (case l_law_finished => k_is)
    (case co_law_finished => k_is)
    (case k_law_finished => k_is)
    (case a_law_refused => k_is)
    (case l_law_refused => k_is)
    (case co_law_refused => k_is)
    (case k_law_refused => k_is)
    (case a_law_agreed => k_is)
    (case l_law_agreed => k_is)
    (case co_law_agreed => k_is)
    (case k_law_agreed => k_is)
    (case a_law_gone_on => k_is)
    (case l_law_gone_on => k_is)
    (case co_law_gone_on => k_is)
    (case k_law_gone_on => k_is)
    (case a_law_received => k_is)
    (case l_law_received => k_is)
    (case co_law_received => k_is)
    (case k_law_received => k_is)
    (case a_law_shown => k_is)
    (case l_law_shown => k_is)
    (case co_law_shown => k_is)
    (case k_law_shown => k_is)
    (case a_law_agrees => k_is)
    (case l_law_agrees => k_is)
    (case co_law_agrees => k_is)
    (case k_law_agrees => k_is)
    (case a_law_world => k_is)
    (case l_law_world => k_is)
    (case co_law_world => k_is)
    (case k_law_world => k_is)
    (case a_law_posted => k_is)
    (case l_law_posted => k_is)
    (case co_law_posted => k_is)
    (case k_law_posted => k_is)
    (case a_law_busy => k_is)
    (case l_law_busy => k_is)
    (case co_law_busy => k_is)
    (case k_law_busy => k_is)
    (case a_law_acted => k_is)
    (case l_law_acted => k_is)
    (case co_law_acted => k_is)
    (case k_law_acted => k_is)
    (case a_law_delivered => k_is)
    (case l_law_delivered => k_is)
    (case co_law_delivered => k_is)
    (case k_law_delivered => k_is)
    (case a_law_wrote => k_is)
    (case l_law_wrote => k_is)
    (case co_law_wrote => k_is)
    (case k_law_wrote => k_is)
    (case a_law_noted => k_is)
    (case l_law_noted => k_is)
    (case co_law_noted => k_is)
    (case k_law_noted => k_is)
    (case a_law_at_rest => k_is)
    (case l_law_at_rest => k_is)
    (case co_law_at_rest => k_is)
    (case k_law_at_rest => k_is)
    (case a_law_causal => k_is)
    (case l_law_causal => k_is)
    (case co_law_causal => k_is)
    (case k_law_causal => k_is)
    (case a_law_joined => k_is)
    (case l_law_joined => k_is)
    (case co_law_joined => k_is)
    (case k_law_joined => k_is)
    (case a_law_step => k_is)
    (case l_law_step => k_is)
    (case co_law_step => k_is)
    (case k_law_step => k_is)
    (case a_law_tree_of => k_is)
    (case l_law_tree_of => k_is)
    (case co_law_tree_of => k_is)
    (case k_law_tree_of => k_is)
    (case a_law_end_right => k_is)
    (case l_law_end_right => k_is)
    (case co_law_end_right => k_is)
    (case k_law_end_right => k_is)
    (case a_law => k_is)
    (case l_law => k_is)
    (case co_law => k_is)
    (case k_law => k_is)
    (case v_LETTERS => k_is)
    (case v_DIGITS => k_is)
    (case v_LONGEST_NAME => k_is)
    (case v_LONGEST_WORD => k_is)
    (case v_SHORTEST_PATH => k_is)
    (case v_MESSAGE => k_is)
    (case v_BYE => k_is)
    (case v_BITS => k_is)
    (case z_len => k_is)
    (case z_range => k_is)
    (case z_abs => k_is)
    (case z_max => k_is)
    (case z_min => k_is)
    (case z_divmod => k_is)
    (case z_isinstance => k_is)
    (case z_str => k_is)
    (case z_int => k_is)
    (case z_bool => k_is)
    (case z_tuple => k_is)
    (case z_list => k_is)
    (case z_set => k_is)
    (case z_dict => k_is)
    (case z_all => k_is)
    (case z_any => k_is)
    (case z_repr => k_is)
    (case z_sorted => k_is)
    (case z_enumerate => k_is)
    (case z_zip => k_is)
    (case e_InvalidWord => k_is)
    (case S_InvalidWord =>
      refine' My.raw_InvalidWord ?ii ?ov ?sa ?ga ?gg ?ca ?ex ?ob ?hd ?kp ?ty ?ini ?tf ?li ?ci ?ki ?n0
      (case ii => kx_is)
      (case ov => kx_is)
      (case sa => k_is)
      (case ga => k_is)
      (case gg => k_is)
      (case ca => k_is)
      (case ex => k_is)
      (case ob => k_is)
      (case hd => k_is)
      (case kp => k_is)
      (case ty => k_is)
      (case ini => k_is)
      (case tf => k_is)
      (case li => k_is)
      (case ci => k_is)
      (case ki => k_is)
      (case n0 => k_is))
    (case e_InvalidName => k_is)
    (case S_InvalidName =>
      refine' My.raw_InvalidName ?ii ?ov ?sa ?ga ?gg ?ca ?ex ?ob ?hd ?kp ?ty ?ini ?tf ?li ?ci ?ki ?n0
      (case ii => kx_is)
      (case ov => kx_is)
      (case sa => k_is)
      (case ga => k_is)
      (case gg => k_is)
      (case ca => k_is)
      (case ex => k_is)
      (case ob => k_is)
      (case hd => k_is)
      (case kp => k_is)
      (case ty => k_is)
      (case ini => k_is)
      (case tf => k_is)
      (case li => k_is)
      (case ci => k_is)
      (case ki => k_is)
      (case n0 => k_is))
    (case e_InvalidItem => k_is)
    (case S_InvalidItem =>
      refine' My.raw_InvalidItem ?ii ?ov ?sa ?ga ?gg ?ca ?ex ?ob ?hd ?kp ?ty ?ini ?tf ?li ?ci ?ki ?n0
      (case ii => kx_is)
      (case ov => kx_is)
      (case sa => k_is)
      (case ga => k_is)
      (case gg => k_is)
      (case ca => k_is)
      (case ex => k_is)
      (case ob => k_is)
      (case hd => k_is)
      (case kp => k_is)
      (case ty => k_is)
      (case ini => k_is)
      (case tf => k_is)
      (case li => k_is)
      (case ci => k_is)
      (case ki => k_is)
      (case n0 => k_is))
    (case e_InvalidRelink => k_is)
    (case S_InvalidRelink =>
      refine' My.raw_InvalidRelink ?ii ?ov ?sa ?ga ?gg ?ca ?ex ?ob ?hd ?kp ?ty ?ini ?tf ?li ?ci ?ki ?n0
      (case ii => kx_is)
      (case ov => kx_is)
      (case sa => k_is)
      (case ga => k_is)
      (case gg => k_is)
      (case ca => k_is)
      (case ex => k_is)
      (case ob => k_is)
      (case hd => k_is)
      (case kp => k_is)
      (case ty => k_is)
      (case ini => k_is)
      (case tf => k_is)
      (case li => k_is)
      (case ci => k_is)
      (case ki => k_is)
      (case n0 => k_is))
    (case e_NameTaken => k_is)
    (case S_NameTaken =>
      refine' My.raw_NameTaken ?ii ?ov ?sa ?ga ?gg ?ca ?ex ?ob ?hd ?kp ?ty ?ini ?tf ?li ?ci ?ki ?n0
      (case ii => kx_is)
      (case ov => kx_is)
      (case sa => k_is)
      (case ga => k_is)
      (case gg => k_is)
      (case ca => k_is)
      (case ex => k_is)
      (case ob => k_is)
      (case hd => k_is)
      (case kp => k_is)
      (case ty => k_is)
      (case ini => k_is)
      (case tf => k_is)
      (case li => k_is)
      (case ci => k_is)
      (case ki => k_is)
      (case n0 => k_is))
    (case e_UnknownHost => k_is)
    (case S_UnknownHost =>
      refine' My.raw_UnknownHost ?ii ?ov ?sa ?ga ?gg ?ca ?ex ?ob ?hd ?kp ?ty ?ini ?tf ?li ?ci ?ki ?n0
      (case ii => kx_is)
      (case ov => kx_is)
      (case sa => k_is)
      (case ga => k_is)
      (case gg => k_is)
      (case ca => k_is)
      (case ex => k_is)
      (case ob => k_is)
      (case hd => k_is)
      (case kp => k_is)
      (case ty => k_is)
      (case ini => k_is)
      (case tf => k_is)
      (case li => k_is)
      (case ci => k_is)
      (case ki => k_is)
      (case n0 => k_is))
    (case v_CK => k_is)
    (case l_CK => k_is)
    (case q_CK => exact ⟨_, _, rfl, rfl, (by decide), .cons ⟨_, rfl⟩ (.cons ⟨_, rfl⟩ (.cons ⟨_, rfl⟩ (.cons ⟨_, rfl⟩ (.cons ⟨_, rfl⟩ .nil))))⟩)
    (case e_Host => k_is)
    (case T_pg => k_is)
    (case T_hd => k_is)
    (case T_po => k_is)
    (case T_sa => k_is)
    (case T_mk => k_is)
    (case T_kc => k_is)
    (case T_nown_name => k_is)
    (case T_nlinked => k_is)
    (case T_nlogged => k_is)
    (case T_njoined => k_is)
    (case T_nstage => k_is)
    (case T_nqueued => k_is)
    (case T_nfinished => k_is)
    (case aTm_init => k_is)
    (case iTm_init => k_is)
    (case lTm_init => k_is)
    (case cTm_init => k_is)
    (case kTm_init => k_is)
    (case aTm_name => k_is)
    (case iTm_name => k_is)
    (case lTm_name => k_is)
    (case cTm_name => k_is)
    (case kTm_name => k_is)
    (case aTm_log => k_is)
    (case iTm_log => k_is)
    (case lTm_log => k_is)
    (case cTm_log => k_is)
    (case kTm_log => k_is)
    (case aTm_links => k_is)
    (case iTm_links => k_is)
    (case lTm_links => k_is)
    (case cTm_links => k_is)
    (case kTm_links => k_is)
    (case aTm_answers => k_is)
    (case iTm_answers => k_is)
    (case lTm_answers => k_is)
    (case cTm_answers => k_is)
    (case kTm_answers => k_is)
    (case aTm_relink => k_is)
    (case iTm_relink => k_is)
    (case lTm_relink => k_is)
    (case cTm_relink => k_is)
    (case kTm_relink => k_is)
    (case aTm_phase => k_is)
    (case iTm_phase => k_is)
    (case lTm_phase => k_is)
    (case cTm_phase => k_is)
    (case kTm_phase => k_is)
    (case aTm_queue => k_is)
    (case iTm_queue => k_is)
    (case lTm_queue => k_is)
    (case cTm_queue => k_is)
    (case kTm_queue => k_is)
    (case aTm_waits_for => k_is)
    (case iTm_waits_for => k_is)
    (case lTm_waits_for => k_is)
    (case cTm_waits_for => k_is)
    (case kTm_waits_for => k_is)
    (case aTm_write => k_is)
    (case iTm_write => k_is)
    (case lTm_write => k_is)
    (case cTm_write => k_is)
    (case kTm_write => k_is)
    (case aTm_receive => k_is)
    (case iTm_receive => k_is)
    (case lTm_receive => k_is)
    (case cTm_receive => k_is)
    (case kTm_receive => k_is)
    (case aTm_add_link => k_is)
    (case iTm_add_link => k_is)
    (case lTm_add_link => k_is)
    (case cTm_add_link => k_is)
    (case kTm_add_link => k_is)
    (case aTm_join_to => k_is)
    (case iTm_join_to => k_is)
    (case lTm_join_to => k_is)
    (case cTm_join_to => k_is)
    (case kTm_join_to => k_is)
    (case aTm_log_and_forward => k_is)
    (case iTm_log_and_forward => k_is)
    (case lTm_log_and_forward => k_is)
    (case cTm_log_and_forward => k_is)
    (case kTm_log_and_forward => k_is)
    (case dlTm_log_and_forward => k_is)
    (case dqTm_log_and_forward => exact ⟨_, _, rfl⟩)
    (case aTm_accept => k_is)
    (case iTm_accept => k_is)
    (case lTm_accept => k_is)
    (case cTm_accept => k_is)
    (case kTm_accept => k_is)
    (case aTm_accept_bye => k_is)
    (case iTm_accept_bye => k_is)
    (case lTm_accept_bye => k_is)
    (case cTm_accept_bye => k_is)
    (case kTm_accept_bye => k_is)
    (case aTm_can_join => k_is)
    (case iTm_can_join => k_is)
    (case lTm_can_join => k_is)
    (case cTm_can_join => k_is)
    (case kTm_can_join => k_is)
    (case aTm_act => k_is)
    (case iTm_act => k_is)
    (case lTm_act => k_is)
    (case cTm_act => k_is)
    (case kTm_act => k_is)
    (case kq_i => exact rfl)
    (case kn_i => k_is)
    (case ke_i => k_is)
    (case kz_i => exact ⟨rfl, _, rfl⟩)

